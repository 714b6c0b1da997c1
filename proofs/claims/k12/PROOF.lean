import PyProof.Rows.All
import Wide.All
import OpenK.AllK
import Wide.FinOn
import HandS.ForExc
import HandS.ExcInit
import HandS.ExcValue
import KE.KExcInit
import KE.KExcIs
import HandS.ForMost
import HandS.HeadHook2
import HandS.HeadEnd
import HandS.Defaults
import HandS.OwnEq
import HandS.Head0
import HandS.Head1
import HandS.Head2
import HandS.TryMany
import OpenK.KOps
import OpenK.KWalk
import OpenK.KMake
import PyProof.InstEq
import HandS.IsInst
import KE.KCallOwn
import HandS.FStr
import PyProof.EnumMake
import PyProof.EnumStmt
import PyProof.TupleIter
import HandS.Base
import HandS.Call
import HandS.Iter
import HandS.Walk
import HandS.Flow
import HandS.TupAny
import HandS.TupMul
import HandS.Star
import HandS.Property
import HandS.ClsMeth
import HandS.HeadHook3
import HandS.WideBits
import HandS.StrMore
import HandS.List
import KE.KOpsOwn
import HandS.DeepEq
import HandS.RaiseMore
import PyProof.ReprText
import PyProof.StrLaws
import HandS.SetTxt0
import HandS.SetBool
import HandS.Set
import HandS.SetFor
import HandS.Strs
import HandS.MakeKwOnly
import HandS.GenCall
import HandS.GenList
import HandS.Conv
import PySem.Challenge.RW_belowneeds_k12_nodes_and_parts
set_option Elab.async false
set_option linter.all false
set_option maxRecDepth 100000
set_option maxHeartbeats 0
/-! Own exception classes over ValueError, LookupError, RuntimeError or ArithmeticError whose __init__ stores fields: how one is made (by place, by keyword), raised, read, asked for its class. -/
namespace PySem.Xk
open PySem.HandSPX Builtin Builtin.ObjectAttr
/-- the class object at C: over the chain bmB, made by newId -/
structure At (h : Heap) (C : Addr) (newId : String) (bmB : List Value) where
  (n m : Str) (ns : Addr) (bs up : List Value) (dct : Bool) (sl : List Str) (sb : List Value) (ab : Bool) (cl : Option Bool) (dl : Option Addr) (x0 x1 x2 x3 x5 : Option Value)
  obj : h.get? C = some (excClassObj n m C ns bs up dct sl sb ab cl dl x0 x1 x2 x3 x5 newId)
  tail : ∀ X : String, up.contains (.type X) = bmB.contains (.type X)
/-- the heap behind the making: the arguments' tuple, the instance -/
abbrev made (h : Heap) (C : Addr) (us : List Value) : Heap := (h.push (W.kdv_tup us)).push (excO C h.objs.size)
theorem made_old {h : Heap} {C : Addr} {us : List Value} (b : Addr) (o : Obj) (e : h.get? b = some o) : (made h C us).get? b = some o := Heap.get?_push_of_some _ (Heap.get?_push_of_some _ e)
theorem made_new {h : Heap} {C : Addr} {us : List Value} : (made h C us).get? (h.objs.size + 1) = some (excO C h.objs.size) := by heap_get
section
variable {B newId initId : String} {bmB us : List Value} {kw : List (Str × Value)} {C f : Addr} {h : Heap} {gs : Array GenState} {dr : Drawn} {n : Nat} {os : OsState} {P : Program} {w : World} {A : Around} {Z : Value → Shared → Prop} {R : Result → Shared → Prop}
theorem At.known (c : At h C newId bmB) {X : String} {b : Bool} (e : bmB.contains (.type X) = b) : (Value.ref C :: c.up).contains (.type X) = b := by
  rw [List.contains_cons, c.tail, e]
  rfl
/-- newId may be called on C -/
theorem mayMake {M : Model} {Q : Unit → Shared → Prop} (F : ExcBaseFacts B newId initId bmB) (c : At h C newId bmB) (q : Q () ⟨h, gs, dr, n, os⟩) : wpAny M A (checkBuiltinCall newId ⟨.ref C :: us, kw⟩) Q Z ⟨h, gs, dr, n, os⟩ := by
  have o := c.obj
  have isB := c.known F.hasB
  have star := F.noStar
  simp only [checkBuiltinCall, F.newRow, F.newKind, F.newSplit]
  repeat first
    | refine wpAny_loadPart_at o ?_
    | refine wpAny_isSubtype_exc o ?_; rw [isB]
    | refine wpAny_staticBase_exc o ?_
    | refine wpAny_madeBy_exc o ?_
    | simp only [if_false, bne_self_eq_false, Bool.false_eq_true]
    | wp_step
  exact q
/-- what newId makes; keywords are let be -/
theorem make (F : ExcBaseFacts B newId initId bmB) (c : At h C newId bmB) (z : us.length ≤ sizeLine) (q : R (.ok (.ret (.ref (h.objs.size + 1)))) ⟨made h C us, gs, dr, n, os⟩) :
    codeAny (model P w) A (.builtin newId ⟨.ref C :: us, kw⟩) R ⟨h, gs, dr, n, os⟩ := by
  have ends := F.ends
  have o := c.obj
  have isB := c.known F.hasB
  have notA := c.known F.noAttr
  have notN := c.known F.noName
  refine codeAny_builtinAt F.entry ?_
  unfold Builtin.«BaseException.__new__»
  refine wpAt_bind (show wpAt _ _ _ (stack >>= _) _ _ _ from wpAt_bind (wpAt_stack fun _ _ => wpAt_of_wpAny ?_))
  wp_walk
  refine wpAt_of_wpAny ?_
  rw [F.owner]
  repeat first
    | with_reducible refine wpAny_madeHere_exc F.canon o ?_
    | with_reducible refine wpAny_loadPart_at o ?_
    | with_reducible refine wpAny_isSubtype_exc o ?_; first | rw [isB] | rw [notA] | rw [notN]
    | wp_step
  show R _ _
  rw [Heap.size_push]
  exact q
/-- type.__call__ on C: made, then its __init__ at f -/
theorem byType {Q : Fin → Shared → Prop} (F : ExcBaseFacts B newId initId bmB) (c : At h C newId bmB) (i : W.Looks (model P w) h (typeLookup (.ref C) "__init__") (some (.ref f))) (m : ∀ x, W.Looks (model P w) h (bindSpecial (.ref f) x) (.ref f, [x])) (z : us.length ≤ sizeLine)
    (q : codeAny (model P w) A (.call (.ref f) ⟨.ref (h.objs.size + 1) :: us, kw⟩) (fun r s => match r with | .ok (.ret v) => v = .none ∧ Q (.done (.ret (.ref (h.objs.size + 1)))) s | .ok _ => False | .error e => Z e s) ⟨made h C us, gs, dr, n, os⟩) :
    wpAny (model P w) A (Builtin.«type.__call__» ⟨.ref C :: us, kw⟩) Q Z ⟨h, gs, dr, n, os⟩ := by
  have o := c.obj
  repeat first
    | with_reducible refine wpAny_loadPart_at o ?_
    | with_reducible refine wpAny_madeBy_exc o ?_
    | wp_step
  refine codeAny_call_builtin_code (Code.quiet_builtin _ F.quiet) (mayMake F c (make F c z ?_))
  show wpAny _ _ _ _ _ _
  have o' := made_old (us := us) (C := C) _ _ o
  have own : (Value.ref C :: c.up).contains (.ref C) = true := by simp
  have i' := i.keeps (made_old (us := us) (C := C))
  have m' := (m (.ref (h.objs.size + 1))).keeps (made_old (us := us) (C := C))
  unfold isInstance
  repeat first
    | with_reducible refine wpAny_loadPart_at made_new ?_
    | with_reducible refine wpAny_isSubtype_exc o' ?_; rw [own]
    | wp_step
  refine (show wpAny _ _ (typeLookup (.ref C) _) _ _ _ from i'.at (wpAny_holding (wpAny_bind (m'.at (wpAny_bind (wpAny_call (codeAny_mono q fun r s y => ?_)))))))
  match r, y with
  | .error _, y => exact y
  | .ok (.ret _), ⟨rfl, y⟩ =>
    first
      | exact wpAny_pure (wpAny_pure y)
      | wp_walk; exact y
/-- C called, with keywords or without -/
theorem called (F : ExcBaseFacts B newId initId bmB) (c : At h C newId bmB) (i : W.Looks (model P w) h (typeLookup (.ref C) "__init__") (some (.ref f))) (m : ∀ x, W.Looks (model P w) h (bindSpecial (.ref f) x) (.ref f, [x])) (z : us.length ≤ sizeLine)
    (q : codeAny (model P w) (A.under (.builtin "type.__call__" ⟨.ref C :: us, kw⟩)) (.call (.ref f) ⟨.ref (h.objs.size + 1) :: us, kw⟩) (W.InitBack (h.objs.size + 1) R) ⟨made h C us, gs, dr, n, os⟩) :
    codeAny (model P w) A (.call (.ref C) ⟨us, kw⟩) R ⟨h, gs, dr, n, os⟩ := by
  have o := c.obj
  have l := tc_lookup
  have b := tc_bind (.ref C)
  have ty : Shared.TypeIs ⟨h, gs, dr, n, os⟩ (.ref C) "type" := ⟨_, o, rfl⟩
  refine codeAny_of_tree (show wpAny _ _ (callAny (.ref C) _) _ _ _ from ?_)
  repeat any_goals first
    | assumption
    | with_reducible refine wpAny_loadPart_at o ?_
    | wp_step
  refine ⟨rfl, codeAny_call_builtin_at (Code.quiet_builtin _ (by decide +kernel)) entry_typeCall ?_⟩
  have may : ∀ {Q : Unit → Shared → Prop} {G : Around} {Y : Value → Shared → Prop}, Q () ⟨h, gs, dr, n, os⟩ → wpAny (model P w) G (checkBuiltinCall "type.__call__" ⟨.ref C :: us, kw⟩) Q Y ⟨h, gs, dr, n, os⟩ := fun {Q G Y} y => by
    have sub := tc_sub
    simp only [checkBuiltinCall, tc_split, tc_kind]
    repeat any_goals first
      | assumption
      | with_reducible refine wpAny_loadPart_at o ?_
      | with_reducible refine wpAny_onRaise ?_
      | with_reducible refine wpAny_map ?_
      | wp_step
  refine may (byType F c i m z (codeAny_mono q fun r s y => ?_))
  match r, y with
  | .error _, y => exact y
  | .ok (.ret _), y => exact y
end
end PySem.Xk

namespace PySem.Xk
open PySem.W PySem.Calls PyProof.Rows PySem.HandSPX Builtin Builtin.ObjectAttr
section
variable {P : Program} {w : World} {A : Around} {R : Result → Shared → Prop} {h : Heap} {gs : Array GenState} {dr : Drawn} {n : Nat} {os : OsState} {B : String} {bmB : List Value} {K : W.Frag} {f : Str} {k : Tok} {v : Value} {x C d : Addr} {fv : Array Value}
/-- what a store into the own dict comes back with -/
abbrev Back (P : Program) (w : World) (A : Around) (R : Result → Shared → Prop) : Fin → Shared → Prop := fun fin s' => match fin with
  | .done r => R (.ok r) s'
  | .again c => c.quiet = true ∧ codeAny (model P w) A c R s'
/-- object.__setattr__ on an instance comes to its own dict -/
theorem toOwn {ox : Obj} {od : Option Obj} (S : StoreFacts B bmB "object.__setattr__" "object") (X : K.In h) (I : InstAt h x ox C od) (over : excOver K C bmB = true) (dct : hasDictIn K C = true) (no : W.findIn K (.ref C) f = some none)
    (q : ∀ cd : ClassData, cd.hasDict = true → W.Looks (model P w) h (classData C) cd → ∀ b : Bool, wpAny (model P w) A.in1 (storeInOwnDict (.ref x) (.ref C) (.str f k) f v b) (Back P w A R) (fun e s => R (.error e) s) ⟨h, gs, dr, n, os⟩) :
    codeAny (model P w) A (.call (.builtin "object.__setattr__") ⟨[.ref x, .str f k, v], []⟩) R ⟨h, gs, dr, n, os⟩ := by
  obtain ⟨cd, e, dct⟩ := any_some dct
  exact osa_openX S X I over (L2.NoAttr.taker no) fun b => q cd dct (W.looks_clsIn X e) b
/-- the first field: a dict is made for it -/
theorem putFirst (S : StoreFacts B bmB "object.__setattr__" "object") (X : K.In h) (ex : h.get? x = some { cls := .ref C, data := .fields fv }) (over : excOver K C bmB = true) (dct : hasDictIn K C = true) (no : W.findIn K (.ref C) f = some none)
    (q : ∀ (G : Heap) (m : Nat) (d : Addr), h.objs.size ≤ d → d ≠ x → (∀ b o, b ≠ x → h.get? b = some o → G.get? b = some o) → G.get? x = some { cls := .ref C, dict := some d, data := .fields fv } → G.Ns1 d (fun y => if y = f then some v else none) → R (.ok (.ret .none)) ⟨G, gs, dr, m, os⟩) :
    codeAny (model P w) A (.call (.builtin "object.__setattr__") ⟨[.ref x, .str f k, v], []⟩) R ⟨h, gs, dr, n, os⟩ := by
  have lt := Heap.lt_size ex
  refine toOwn S X (od := none) ⟨ex, rfl, rfl, trivial⟩ over dct no fun cd dc lk b => ?_
  obtain ⟨_, _, _, _, _, _, _, _, _, _, _⟩ := cd
  obtain rfl : _ = true := dc
  unfold storeInOwnDict ownDictForStores
  repeat first
    | with_reducible refine store_in_new ?_ ?_
    | with_reducible refine wpAny_loadPart_at ex ?_
    | with_reducible refine lk.at ?_
    | wp_step
  · refine ⟨_, #[], _, (Heap.get?_update_ne _ _ _ _ (Nat.ne_of_gt lt)).trans (Heap.get?_push_at rfl rfl), rfl, fun e he => ?_, fun _ => rfl⟩
    simp at he
  · intro G m ns st
    refine q G m _ (Nat.le_refl _) (Nat.ne_of_gt lt) (fun b o hb e => ?_) ?_ ns
    · rw [st.2 b (Nat.ne_of_lt (Heap.lt_size e)), Heap.get?_update_ne _ _ _ _ hb]
      exact Heap.get?_push_of_some _ e
    · rw [st.2 x (Nat.ne_of_lt lt)]
      exact Heap.get?_update_self _ (Heap.get?_push_of_some _ ex) rfl
/-- a further field -/
theorem putMore {m0 : Str → Option Value} {nl : List Str} (S : StoreFacts B bmB "object.__setattr__" "object") (X : K.In h) (ex : h.get? x = some { cls := .ref C, dict := some d, data := .fields fv }) (ns : h.Ns1 d m0) (wi : Within m0 nl) (z : nl.length ≤ 1000)
    (over : excOver K C bmB = true) (dct : hasDictIn K C = true) (no : W.findIn K (.ref C) f = some none)
    (q : ∀ (G : Heap) (m : Nat), (∀ b o, b ≠ d → h.get? b = some o → G.get? b = some o) → G.Ns1 d (fun y => if y = f then some v else m0 y) → R (.ok (.ret .none)) ⟨G, gs, dr, m, os⟩) :
    codeAny (model P w) A (.call (.builtin "object.__setattr__") ⟨[.ref x, .str f k, v], []⟩) R ⟨h, gs, dr, n, os⟩ := by
  obtain ⟨od, _, _, e, _, _⟩ := ns.count wi
  refine toOwn S X (od := some od) ⟨ex, rfl, rfl, e⟩ over dct no fun cd dc lk b => ?_
  obtain ⟨_, _, _, _, _, _, _, _, _, _, _⟩ := cd
  obtain rfl : _ = true := dc
  unfold storeInOwnDict ownDictForStores
  repeat first
    | with_reducible refine OEX.store_in_old ns wi z ?_
    | with_reducible refine wpAny_loadPart_at ex ?_
    | with_reducible refine lk.at ?_
    | wp_step
  exact fun G m ns' st => q G m (fun b o hb e => by rw [st.2 b hb]; exact e) ns'
end
end PySem.Xk
namespace L2
open PySem PySem.Spec PyProof.Rows
/-- a class of the text over one of the built-in errors, as the written part tells it -/
structure XC (K : PySem.W.Frag) (C : Addr) : Prop where
  ex : ∃ B newId initId bmB, ExcBaseFacts B newId initId bmB ∧ StoreFacts B bmB "object.__setattr__" "object" ∧ PySem.W.excInitIn K C bmB newId = true ∧ PySem.W.excOver K C bmB = true
  (hd : PySem.W.hasDictIn K C = true) (sa : PySem.W.findIn K (.ref C) "__setattr__" = some (some (.builtin "object.__setattr__"))) (ga : PySem.W.findIn K (.ref C) "__getattribute__" = some (some (.builtin "BaseException.__getattribute__")))
  (gg : PySem.W.findIn K (.ref C) "__getattr__" = some none) (exC : PySem.W.subIn K (.ref C) (.type "BaseException") = some true) (tyC : PySem.W.typeIn K (.ref C) = some (.type "type")) (kC : PySem.W.keepIn K (.ref C) = true)
  (ha : PySem.W.findIn K (.ref C) "__class__" = some (some (.builtin "object.__class__"))) (hn : PySem.W.specialIn K (.builtin "object.__class__") "__get__" = some (some (.builtin "getset_descriptor.__get__")))
  (ht : PySem.W.takesIn K (.builtin "object.__class__") = some true) (hm : PySem.W.mroIn K C (.type "object") = some true)
section
variable {X : Cx} {pins : List (Addr × Obj)} {σ : St} {H : Hp} {s : Shared} {a C d : Addr} {f : Str} {y : V} {u : Value} {fs : List (Str × V)} {Q : Unit → Shared → Prop} {E : Value → Shared → Prop} {A : Around}
/-- no other object at d's and a's places -/
theorem two_ne {c : Addr} {o r : HO} (e : H a = some r) (n : H d = none) (ec : H c = some o) (dif : o ≠ r) : c ≠ a ∧ c ≠ d := by
  refine ⟨fun z => ?_, fun z => ?_⟩
  · rw [z, e] at ec
    exact dif (Option.some.inj ec).symm
  · rw [z, n] at ec
    cases ec
theorem two_at {c : Addr} {o g : HO} (q : c ≠ a ∧ c ≠ d) : upd (upd H d g) a o c = H c := by rw [upd_ne q.1, upd_ne q.2]
/-- the first field of an error -/
theorem field1 (T : XC X.K C) (I : Inv X pins σ H s) (e : H a = some (exo a C none)) (no : PySem.W.findIn X.K (.ref C) f = some none) (ry : RelV y u)
    (q : ∀ d s', H d = none → d ≠ a → Inv X pins σ (upd (upd H d (exd d [(f, y)])) a (exo a C (some d))) s' → Q () s') : wpAny (model X.prog X.w) A (setAttr (.ref a) f u) Q E s := by
  obtain ⟨_, _, _, _, _, SF, _, over⟩ := T.ex
  obtain ⟨t, at_⟩ := exo_at I.hok e
  obtain ⟨h, gs, dr, n, os⟩ := s
  refine PySem.W.set_plain I.kIn (od := none) ⟨at_, rfl, rfl, trivial⟩ T.sa (PySem.Xk.putFirst SF I.kIn at_ over T.hd no fun G m d dn da k hx hn => ?_)
  have fd : H d = none := I.hok.fresh dn
  have far : ∀ {b : Addr}, H b = none → b ≠ a := fun {b} z w => by
    rw [w, e] at z
    cases z
  have other : ∀ {b : Addr} {o : HO}, H b = some o → o ≠ exo a C none → upd (upd H d (exd d [(f, y)])) a (exo a C (some d)) b = some o := fun {b o} z dif => (two_at (two_ne e fd z dif)).trans z
  have tupN : ∀ xs, HO.tup xs ≠ exo a C none := fun _ z => by cases z
  have frzN : ∀ o v, HO.frz o v ≠ exo a C none := fun _ _ z => by cases z
  have ownN : ∀ b, HO.own b ≠ exo a C none := fun _ z => by cases z
  have tblN : ∀ ps, HO.tbl ps ≠ exo a C none := fun _ z => by cases z
  have apart : ∀ {b : Addr} {o : Obj}, h.get? b = some o → b ≠ d := fun {b o} z w => Nat.lt_irrefl _ (Nat.lt_of_lt_of_le (Heap.lt_size (w ▸ z)) dn)
  have un : Un X.fs [] H (upd (upd H d (exd d [(f, y)])) a (exo a C (some d))) h G :=
    ⟨fun b o z w _ _ => k b o (far w) z, fun b o z w _ _ => ⟨_, k b o (far w) z⟩, fun b o z w _ => (two_at ⟨far w, apart z⟩).trans w, fun b o z _ => (Decidable.em (b = a)).elim (fun w => ⟨_, w ▸ hx⟩) fun w => ⟨o, k b o w z⟩,
      fun b xs z => other z (tupN xs), fun b o v z => other z (frzN o v), fun b ps z => ⟨#[], by rw [other z (tblN ps)]; simp⟩⟩
  refine q d _ fd da (I.un (t' := m) un fun b o z => ?_)
  rcases Decidable.em (b = a) with rfl | ba
  · obtain rfl := Option.some.inj (upd_same.symm.trans z)
    exact exo_ok hx
  rcases Decidable.em (b = d) with rfl | bd
  · obtain rfl := Option.some.inj ((upd_ne ba).trans upd_same |>.symm.trans z)
    exact exd_ok hn (relO_put (fs := []) ry fun _ => trivial)
  rw [two_at ⟨ba, bd⟩] at z
  refine (I.hok b o z).stay (fun c v hc w => k c v ?_ w) (fun c w => other w (ownN b)) fun c xs w => other w (tupN xs)
  rcases hc with rfl | hc
  · exact ba
  · exact (two_ne e fd hc (ownN b)).1
/-- a further field of an error -/
theorem field2 (T : XC X.K C) (I : Inv X pins σ H s) (e : H a = some (exo a C (some d))) (ed : H d = some (exd d fs)) (few : fs.length ≤ 900) (no : PySem.W.findIn X.K (.ref C) f = some none) (ry : RelV y u)
    (q : ∀ s', Inv X pins σ (upd H d (exd d ((f, y) :: fs))) s' → Q () s') : wpAny (model X.prog X.w) A (setAttr (.ref a) f u) Q E s := by
  obtain ⟨_, _, _, _, _, SF, _, over⟩ := T.ex
  obtain ⟨t, at_⟩ := exo_at I.hok e
  obtain ⟨m0, ns, rel⟩ := exd_at I.hok ed
  obtain ⟨h, gs, dr, n, os⟩ := s
  obtain ⟨od, _, _, eo, _, _⟩ := ns.count (within_of rel)
  refine PySem.W.set_plain I.kIn (od := some od) ⟨at_, rfl, rfl, eo⟩ T.sa (PySem.Xk.putMore SF I.kIn at_ ns (within_of rel) (by simp only [List.length_map]; omega) over T.hd no fun G m k ns' => q _ ?_)
  refine I.write (t' := m) (x := d) (e := d) (o := exd d ((f, y) :: fs)) (by rw [ed]; trivial) (.inl rfl) k ?_ (exd_ok ns' (relO_put ry rel))
  obtain ⟨o, _, _, w, _⟩ := ns'
  exact ⟨o, w⟩
end
/-- self.f = e of an error: what is stored, then where -/
def tOstX (K : PySem.W.Frag) (f : Str) (to te : TE) : TS := fun D σ H => te σ H fun y H1 => to σ H1 fun x H2 => ∃ a C : Addr, x = .ref a ∧ XC K C ∧ PySem.W.findIn K (.ref C) f = some none ∧
  ((H2 a = some (exo a C none) ∧ ∀ d, H2 d = none → d ≠ a → D.nx σ (upd (upd H2 d (exd d [(f, y)])) a (exo a C (some d)))) ∨
    ∃ (d : Addr) (fs : List (Str × V)), H2 a = some (exo a C (some d)) ∧ H2 d = some (exd d fs) ∧ fs.length ≤ 900 ∧ D.nx σ (upd H2 d (exd d ((f, y) :: fs))))
theorem ps_ostX {X : Cx} {o e : Expr} {to te : TE} {f : Str} {p' pos : Pos} (ho : PE X o to) (he : PE X e te) (hs : swapsWith e (some (.Attribute o f p')) pos.line X.env = pure false := by rfl) : PS X (.Assign [.Attribute o f p'] e pos) (tOstX X.K f to te) :=
  ⟨fun pins s σ H D I h => plainObj_wpAny_Assign_Attribute (thn (he.run pins s σ H _ I h) fun v s1 ⟨y, H1, I1, r1, q1⟩ => thn (ho.run pins s1 σ H1 _ I1 q1) fun u s2 ⟨x, H2, I2, r2, a, C, ex, T, no, w⟩ => by
    subst ex
    obtain rfl : u = Value.ref a := r2
    exact w.elim (fun ⟨e1, q⟩ => field1 T I2 e1 no r1 fun d s' n ne J => ⟨σ, _, J, q d n ne⟩) fun ⟨d, fs, e1, e2, few, q⟩ => field2 T I2 e1 e2 few no r1 fun s' J => ⟨σ, _, J, q⟩) hs⟩
end L2

namespace L2
open PySem PySem.Spec PyProof.Rows
/-- C(e, ..): the instance, then __init__ keeping sp -/
def tMkX (C : Addr) (sp : Sp) (ta : TA) : TE := fun σ H Q => ta σ H fun vs H1 => vs.length ≤ 1000 ∧ ∀ a, H1 a = none → sp (.ref a :: vs) (upd H1 a (exo a C none)) (fun v H2 => v = .non ∧ Q (.ref a) H2) E0
/-- C(k = e, ..): by n keywords alone; gV puts the values into the sequence of the parameters -/
def tMkXK (C : Addr) (n : Nat) (sp : Sp) (gV : List V → List V) (tk : TA) : TE := fun σ H Q => tk σ H fun zs H1 => zs.length = n ∧ ∀ a, H1 a = none → sp (.ref a :: gV zs) (upd H1 a (exo a C none)) (fun v H2 => v = .non ∧ Q (.ref a) H2) E0
/-- C(), no __init__ -/
def tMk0 (C : Addr) : TE := fun _ H Q => ∀ a, H a = none → Q (.ref a) (upd H a (exo a C none))
/-- raise C(e, ..): made, then let go -/
def tMkR (C : Addr) (sp : Sp) (ta : TA) : St → Hp → XK → Prop := fun σ H Q => ta σ H fun vs H1 => vs.length ≤ 1000 ∧ ∀ a, H1 a = none → sp (.ref a :: vs) (upd H1 a (exo a C none))
  (fun v H2 => v = .non ∧ ∃ (d : Addr) (fs : List (Str × V)), H2 a = some (exo a C (some d)) ∧ H2 d = some (exd d fs) ∧ H1 d = none ∧ Q (.ref C) (some d) (upd (del H2 a) d (.xd fs))) E0
/-- how keywords alone bind behind self -/
structure KB (K : PySem.W.Frag) (fd : FuncData) (ps ks : List Str) (g : List Value → List Value) (gV : List V → List V) : Prop where
  to : ∀ (s : Shared) (a : Addr) (ws : List Value), K.In s.heap → ws.length = ks.length → BindsTo s fd ⟨[.ref a], ks.zip ws⟩ (ps.zip (.ref a :: g ws))
  rel : ∀ {zs : List V} {ws : List Value}, zs.length = ks.length → Vals zs ws → Vals (gV zs) (g ws)
/-- the __init__ of the class at C: it stands at f, is a def, keeps sp, may be called here -/
structure Init (X : Cx) (CX : CXT) (k : Nat) (C f : Addr) (fd : FuncData) (ps : List Str) (sp : Sp) : Prop where
  xc : XC X.K C
  at_ : PySem.W.findIn X.K (.ref C) "__init__" = some (some (.ref f))
  fn : PySem.W.typeIn X.K (.ref f) = some (.type "function")
  ok : FnOk X.prog X.w X.K X.mg X.base CX k f fd ps sp
  room : Room (k + 1) X.A
  out : Passes CX X (fun _ _ _ => False)
section
variable {X : Cx} {CX : CXT} {k : Nat} {fI C : Addr} {fd : FuncData} {ps : List Str} {sp : Sp} {x : Str} {p pos : Pos} {e : Expr} {es : List Expr} {ta tk : TA}
/-- C called: what stands behind its __init__ is handed to fin -/
theorem Init.call (T : Init X CX k C fI fd ps sp) {pins : List (Addr × Obj)} {σ : St} {H1 : Hp} {s1 : Shared} {Φ : Addr → VK} {R : Value → Shared → Prop} {us args : List Value} {kw : List (Str × Value)} {vs : List V} (I1 : Inv X pins σ H1 s1)
    (hb : ∀ (s : Shared) (a : Addr), X.K.In s.heap → BindsTo s fd ⟨.ref a :: us, kw⟩ (ps.zip (.ref a :: args))) (rv : Vals vs args) (hl : us.length ≤ sizeLine) (q1 : ∀ a, H1 a = none → sp (.ref a :: vs) (upd H1 a (exo a C none)) (Φ a) E0) (non : ∀ a v H, Φ a v H → v = .non)
    (fin : ∀ (a : Addr) (s2 s3 : Shared), s1.heap.objs.size ≤ a → (∀ b o, s1.heap.get? b = some o → s2.heap.get? b = some o) → s2.os = s1.os → Inv X pins σ (upd H1 a (exo a C none)) s2 → CR CX X.stack X.prog X.w (upd H1 a (exo a C none)) s2 (Φ a) E0 (.ok (.ret .none)) s3 → R (.ref a) s3) :
    wpAny (model X.prog X.w) X.A (PySem.call (.ref C) us kw) R X.xe s1 := by
  obtain ⟨_, _, _, _, FB, _, qI, _⟩ := T.xc.ex
  obtain ⟨n, N, m, bs, bm, hdct, sn, sub, ab, col, dd, k0, k1, k2, k3, k5, hC, hT⟩ := PySem.W.excInit_of I1.kIn qI
  obtain ⟨h, g, dr, n', os⟩ := s1
  have c : PySem.Xk.At h C _ _ := ⟨_, _, _, _, _, _, _, _, _, _, _, _, _, _, _, _, hC, hT⟩
  have hq := q1 (h.objs.size + 1) (I1.hok.fresh (Nat.le_succ _))
  have I2 : Inv X pins σ (upd H1 (h.objs.size + 1) (exo (h.objs.size + 1) C none)) ⟨PySem.Xk.made h C us, g, dr, n', os⟩ := I1.laid (t' := n') PySem.Xk.made_old (Nat.le_succ _) (exo_ok PySem.Xk.made_new)
  have rv' : Vals (V.ref (h.objs.size + 1) :: vs) (Value.ref (h.objs.size + 1) :: args) := .cons rfl rv
  refine wpAny_call (PySem.Xk.called FB c (PySem.W.looks_findIn I1.kIn T.at_) (fun y => PySem.W.bind_fn I1.kIn y T.fn) hl ?_)
  refine codeAny_mono (T.ok.run _ X.stack _ _ ⟨Value.ref (h.objs.size + 1) :: us, kw⟩ (Value.ref (h.objs.size + 1) :: args) _ _ E0 (T.room.make C us kw) (I2.env0.make C us kw) (hb _ _ I2.kIn) rv' hq) fun r s' z => ?_
  match r, z with
  | .error er, z => exact T.out pins σ _ _ er s' I2 z
  | .ok (.ret u), z =>
    obtain ⟨v, _, _, _, _, _, rv2, q⟩ := id z
    obtain rfl := non _ _ _ q
    obtain rfl : u = Value.none := rv2
    exact ⟨rfl, fin _ ⟨PySem.Xk.made h C us, g, dr, n', os⟩ s' (Nat.le_succ _) PySem.Xk.made_old rfl I2 z⟩
theorem Init.value (T : Init X CX k C fI fd ps sp) {pins : List (Addr × Obj)} {σ : St} {H1 : Hp} {s1 : Shared} {Q : VK} {us args : List Value} {kw : List (Str × Value)} {vs : List V} (I1 : Inv X pins σ H1 s1)
    (hb : ∀ (s : Shared) (a : Addr), X.K.In s.heap → BindsTo s fd ⟨.ref a :: us, kw⟩ (ps.zip (.ref a :: args))) (rv : Vals vs args) (hl : us.length ≤ sizeLine) (q1 : ∀ a, H1 a = none → sp (.ref a :: vs) (upd H1 a (exo a C none)) (fun v H2 => v = .non ∧ Q (.ref a) H2) E0) :
    wpAny (model X.prog X.w) X.A (PySem.call (.ref C) us kw) (EP X pins σ Q) X.xe s1 :=
  T.call (Φ := fun a v H2 => v = .non ∧ Q (.ref a) H2) I1 hb rv hl q1 (fun _ _ _ q => q.1) fun a s2 s3 _ _ _ I2 z => by
    obtain ⟨v, H2, I3, _, _, q⟩ := I2.after z
    exact ⟨V.ref a, H2, I3, rfl, q⟩
/-- arguments by place bind behind self -/
theorem Init.binds (T : Init X CX k C fI fd ps sp) (hb : Binds X.K fd ps []) {s1 : Shared} {us : List Value} {vs : List V} {H1 : Hp} {Q : VK} {E : XK} {a' : Addr} {G : Hp} (r : Vals vs us) (q : sp (.ref a' :: vs) G Q E) (s : Shared) (a : Addr) (hK : X.K.In s.heap) : BindsTo s fd ⟨.ref a :: us, []⟩ (ps.zip (.ref a :: us)) := by
  have l := T.ok.len _ _ _ _ q
  rw [List.length_cons, Paired.length r] at l
  have b := hb s (.ref a :: us) hK (by simpa using l)
  rw [List.append_nil] at b
  exact b
/-- C(e, ..) -/
theorem pe_exc (T : XC X.K C) (iC : PySem.W.findIn X.K (.ref C) "__init__" = some (some (.ref fI))) (tI : PySem.W.typeIn X.K (.ref fI) = some (.type "function"))
    (F1 : FnOk X.prog X.w X.K X.mg X.base CX k fI fd ps sp) (hr : Room (k + 1) X.A) (hb : Binds X.K fd ps []) (hx : Passes CX X (fun _ _ _ => False)) (hg : Gl X x) (hm : X.mg x = some (.ref C)) (ha : PA X (e :: es) ta)
    (hdb : (x == ("__debug__" : Str)) = false := by decide)
    (he : starEach (e :: es) X.env = (false, eval e X.env) :: starEach es X.env := by rfl)
    (hpl : (backTo pos (starEach es X.env)).any (·.1) = false := by rfl) : PE X (.Call (.Name x p) (e :: es) [] pos) (tMkX C sp ta) := by
  have J : Init X CX k C fI fd ps sp := ⟨T, iC, tI, F1, hr, hx⟩
  constructor
  intro pins s σ H Q I h
  refine wpAny_Call_Name_kw (ld_glob I hg hm (PySem.W.callWith_K (h₀ := X.base) I.ok.mod.kin T.kC (thn (ha.run pos pins s σ H _ I h) fun us s1 w => ?_) he hpl) hdb)
  obtain ⟨vs, H1, I1, r, z, q⟩ := w
  exact ⟨I1.kIn, J.value (kw := []) I1 (J.binds (s1 := s1) (H1 := H1) hb r (q (s1.heap.objs.size) (I1.hok.fresh (Nat.le_refl _)))) r (by show us.length ≤ _; rw [← Paired.length r, sizeLine_eq]; omega) q⟩
/-- C(k = e, ..) -/
theorem pe_excK {ks : List Str} {kws : List Keyword} {g : List Value → List Value} {gV : List V → List V} (T : XC X.K C) (iC : PySem.W.findIn X.K (.ref C) "__init__" = some (some (.ref fI))) (tI : PySem.W.typeIn X.K (.ref fI) = some (.type "function"))
    (F1 : FnOk X.prog X.w X.K X.mg X.base CX k fI fd ps sp) (hr : Room (k + 1) X.A) (hb : KB X.K fd ps ks g gV) (hx : Passes CX X (fun _ _ _ => False)) (hg : Gl X x) (hm : X.mg x = some (.ref C)) (hkw : PK X kws tk)
    (hall : (backToKw pos (keywordEach kws X.env)).all (·.1.isSome) = true := by rfl) (hks : (backToKw pos (keywordEach kws X.env)).filterMap (·.1) = ks := by rfl)
    (hdb : (x == ("__debug__" : Str)) = false := by decide)
    (hpl : ((backTo pos (starEach [] X.env)).any (·.1) || (backToKw pos (keywordEach kws X.env)).any (·.1.isNone)) = false := by rfl) : PE X (.Call (.Name x p) [] kws pos) (tMkXK C ks.length sp gV tk) := by
  have J : Init X CX k C fI fd ps sp := ⟨T, iC, tI, F1, hr, hx⟩
  constructor
  intro pins s σ H Q I h
  refine wpAny_Call_Name_kw (ld_glob I hg hm (PySem.W.callWith_KW0 (h₀ := X.base) I.ok.mod.kin T.kC hall (thn (hkw.run pos pins s σ H _ I h) fun ws s2 w => ?_) hpl) hdb)
  obtain ⟨zs, H2, I2, r, l, q⟩ := w
  rw [hks]
  exact ⟨I2.kIn, J.value (us := []) (kw := ks.zip ws) I2 (fun s a hK => hb.to s a ws hK (r.length.symm.trans l)) (hb.rel l r) (by rw [sizeLine_eq]; decide) q⟩
/-- raise's C(e, ..) -/
theorem pmk_exc (T : XC X.K C) (iC : PySem.W.findIn X.K (.ref C) "__init__" = some (some (.ref fI))) (tI : PySem.W.typeIn X.K (.ref fI) = some (.type "function"))
    (F1 : FnOk X.prog X.w X.K X.mg X.base CX k fI fd ps sp) (hr : Room (k + 1) X.A) (hb : Binds X.K fd ps []) (hx : Passes CX X (fun _ _ _ => False)) (hg : Gl X x) (hm : X.mg x = some (.ref C)) (ha : PA X (e :: es) ta)
    (hdb : (x == ("__debug__" : Str)) = false := by decide)
    (he : starEach (e :: es) X.env = (false, eval e X.env) :: starEach es X.env := by rfl)
    (hpl : (backTo pos (starEach es X.env)).any (·.1) = false := by rfl) : PMk X (.Call (.Name x p) (e :: es) [] pos) (tMkR C sp ta) := by
  have J : Init X CX k C fI fd ps sp := ⟨T, iC, tI, F1, hr, hx⟩
  intro pins s σ H Q I h
  refine wpAny_Call_Name_kw (ld_glob I hg hm (PySem.W.callWith_K (h₀ := X.base) I.ok.mod.kin T.kC (thn (ha.run pos pins s σ H _ I h) fun us s1 w => ?_) he hpl) hdb)
  obtain ⟨vs, H1, I1, r, z, q⟩ := w
  refine ⟨I1.kIn, J.call (kw := []) I1 (J.binds (s1 := s1) (H1 := H1) hb r (q (s1.heap.objs.size) (I1.hok.fresh (Nat.le_refl _)))) r (by show us.length ≤ _; rw [← Paired.length r, sizeLine_eq]; omega) q (fun _ _ _ y => y.1) fun a s2 s3 le up eo _ y => ?_⟩
  obtain ⟨_, _, eo3, bare, un, hok, _, _, d, fs, ea, ed, nd, q2⟩ := y
  exact mk_end (raises_own T.exC T.tyC) I1 le up un hok (eo3.trans eo) bare ea ed nd q2
/-- C(), no __init__ of its own -/
theorem pe_exc0 {bmB : List Value} {B newId initId : String} (T : XC X.K C) (F : ExcBaseFacts B newId initId bmB) (q : PySem.W.excIn X.K C bmB newId = true) (hg : Gl X x) (hm : X.mg x = some (.ref C)) (hdb : (x == ("__debug__" : Str)) = false := by decide) : PE X (.Call (.Name x p) [] [] pos) (tMk0 C) := by
  constructor
  intro pins s σ H Q I h
  refine wpAny_Call_Name_kw (ld_glob I hg hm (PySem.W.callWith_K0 I.kIn T.kC ?_) hdb)
  obtain ⟨_, _, _, _, _, _, _, _, _, _, _, _, _, _, _, _, _, hC, hN, no, tail⟩ := exc_obj I.kIn q
  refine (show wpAny _ _ (PySem.call (.ref C) []) _ _ _ from wpAny_call_exc_subT F tail hC hN no (fun G a m => ?_) (Nat.zero_le _))
  have na : H a = none := I.hok.gone m.new
  obtain ⟨_, ea, _⟩ := m.there
  exact ⟨V.ref a, upd H a (exo a C none), I.laidN m.keeps m.new na (exo_ok ea), rfl, h a na⟩
end
/-! ### a field read, the class asked -/
/-- e.f of an error e -/
def tXf (K : PySem.W.Frag) (te : TE) (f : Str) : TE := fun σ H Q => te σ H fun x H1 => ∃ (a C d : Addr) (fs : List (Str × V)) (v : V), x = .ref a ∧ XC K C ∧ PySem.W.findIn K (.ref C) f = some none ∧ H1 a = some (exo a C (some d)) ∧ H1 d = some (exd d fs) ∧ fs.lookup f = some v ∧ Q v H1
/-- n.f in the suite of an except clause, n the exception at a -/
def tXdf (K : PySem.W.Frag) (a : Addr) (cls : Value) (d : Option Addr) (te : TE) (f : Str) : TE := fun σ H Q => te σ H fun x H1 => x = .ref a ∧ ∃ (C dd : Addr) (fs : List (Str × V)) (v : V), cls = .ref C ∧ XC K C ∧ PySem.W.findIn K (.ref C) f = some none ∧
  d = some dd ∧ H1 dd = some (.xd fs) ∧ fs.lookup f = some v ∧ Q v H1
section
variable {X : Cx} {e : Expr} {te : TE} {f : Str} {pos : Pos}
/-- the field's value, from the dict at d -/
theorem XC.field {C a d : Addr} (T : XC X.K C) (no : PySem.W.findIn X.K (.ref C) f = some none) {s : Shared} {fs : List (Str × V)} {v : V} {b : Bool} {Q : Value → Shared → Prop} {A : Around} {E : Value → Shared → Prop} {o : Obj} (kin : X.K.In s.heap) (ea : s.heap.get? a = some o)
    (ec : o.cls = .ref C) (ed : o.dict = some d) (nc : PySem.W.notCls o = true) (ens : ∃ mA, s.heap.Ns1 d mA ∧ ∀ g, RelO (fs.lookup g) (mA g)) (hl : fs.lookup f = some v) (q : ∀ u n, RelV v u → Q u { s with toks := n }) : wpAny (model X.prog X.w) A (getAttr (.ref a) f b) Q E s := by
  obtain ⟨mA, ns, rel⟩ := ens
  obtain ⟨od, eo, look⟩ := lookIn_ns ns
  obtain ⟨u, eu, ru⟩ := RelO.some_of (o := mA f) (hl ▸ rel f)
  have J : PySem.W.InstAt s.heap a o C (some od) := ⟨ea, ec, nc, by rw [ed]; exact eo⟩
  exact HandSPX.exc_get kin J T.ga T.gg T.exC (PySem.W.findObj_own T.hd no rfl (by rw [look, eu])) (handed_of ru) (q u _ ru)
theorem pe_xfld (he : PE X e te) (hb : attributeBase e f X.env (eval e X.env) = eval e X.env := by rfl) : PE X (.Attribute e f pos) (tXf X.K te f) :=
  ⟨fun pins s σ H Q I h => attr_of hb (thn (he.run pins s σ H _ I h) fun u s1 ⟨x, H1, I1, r1, a, C, d, fs, v, ex, T, no, ea, ed, hl, q⟩ => by
    subst ex
    obtain rfl : u = Value.ref a := r1
    obtain ⟨_, at_⟩ := exo_at I1.hok ea
    exact T.field no I1.kIn at_ rfl rfl rfl (exd_at I1.hok ed) hl fun u n ru => ⟨v, H1, I1.tok n, ru, q⟩)⟩
theorem pe_xdf {a : Addr} {oe : Obj} {cls : Value} {d : Option Addr} {pn : List (Addr × Obj)} (hz : Zc cls d oe) (hf : ∃ vs, oe.data = .fields vs) (he : PE (X.suite a ((a, oe) :: pn)) e te)
    (hb : attributeBase e f X.env (eval e X.env) = eval e X.env := by rfl) : PE (X.suite a ((a, oe) :: pn)) (.Attribute e f pos) (tXdf X.K a cls d te f) :=
  ⟨fun pins s σ H Q I h => attr_of hb (thn (he.run pins s σ H _ I h) fun u s1 ⟨x, H1, I1, r1, ex, C, dd, fs, v, ec, T, no, ed, e2, hl, q⟩ => by
    subst ex ec ed
    obtain rfl : u = Value.ref a := r1
    obtain ⟨vs, eo⟩ := hf
    exact T.field no I1.kIn (I1.pin (a, oe) (List.mem_append_left _ List.mem_cons_self)).1 hz.1 hz.2 (by unfold PySem.W.notCls; rw [eo]) (I1.hok dd _ e2) hl fun u n ru => ⟨v, H1, I1.tok n, ru, q⟩)⟩
/-- isinstance(e, c), e an error -/
def rIsX (K : PySem.W.Frag) : List V → Hp → VK → Prop := fun xs H Q => ∃ (a C : Addr) (d : Option Addr) (c : V) (cv : Value) (b : Bool), xs = [.ref a, c] ∧ XC K C ∧ H a = some (exo a C d) ∧ (∀ dd, d = some dd → ∃ fs, H dd = some (exd dd fs)) ∧
  (∀ u, RelV c u → u = cv) ∧ PySem.W.kitOne K (.ref C) cv = some b ∧ Q (.bl b) H
theorem call_isX : CallR X (.builtin "isinstance") (rIsX X.K) := by
  intro pins s σ H xs us Q I r h
  obtain ⟨a, C, d, c, cv, b, rfl, T, ea, hd, hcv, e, q⟩ := h
  obtain ⟨_, _, rfl, rx, rt⟩ : ∃ u1 u2, us = [u1, u2] ∧ RelV (V.ref a) u1 ∧ RelV c u2 := by
    cases r with
    | cons r1 r2 => cases r2 with
      | cons r2 r3 =>
        cases r3
        exact ⟨_, _, rfl, r1, r2⟩
  cases rx
  obtain rfl := hcv _ rt
  obtain ⟨t, at_⟩ := exo_at I.hok ea
  have cls : (PySem.W.clsIn X.K C).isSome = true := by
    obtain ⟨cd, w, _⟩ := PySem.W.any_some T.hd
    rw [w]
    rfl
  obtain ⟨od, J⟩ : ∃ od, PySem.W.InstAt s.heap a { cls := .ref C, dict := d, data := .fields #[.ref t, .none, .none, .none, .bool false, .none] } C od := by
    match d, hd, at_ with
    | none, _, at_ => exact ⟨none, at_, rfl, rfl, trivial⟩
    | some dd, hd, at_ =>
      obtain ⟨fs, ed⟩ := hd dd rfl
      obtain ⟨mA, ns, _⟩ := exd_at I.hok ed
      obtain ⟨od, eo, _⟩ := lookIn_ns ns
      exact ⟨some od, at_, rfl, rfl, eo⟩
  exact PySem.W.kia_one (PySem.W.kitx_exc cls T.ga T.gg T.exC T.ha T.hn T.ht T.hm) I.kIn J e (fun z => nomatch z) fun n => ⟨.bl b, H, I.kept (t' := n) fun _ _ z => z, rfl, q⟩
end
end L2

/-! Data that may hold dicts with text keys, read off the abstract heap; what repr makes of it. Defs that are promised only where no repr is running around them. -/
namespace L2
open PySem PySem.Spec PyProof.Rows
mutual
/-- v stands for the datum d (the lists, tuples and dicts in it are tracked or of the written part) -/
inductive Dd (K : PySem.W.Frag) (H : Hp) : V → PyData → Prop
  | non : Dd K H .non .none
  | bl (b : Bool) : Dd K H (.bl b) (.bool b)
  | int (i : Int) : Dd K H (.int i) (.int i)
  | str (x : Str) : Dd K H (.str x) (.str x)
  | lst {a : Addr} {xs : List V} {ds : List PyData} (h : SqL K H a xs) (t : Dds K H xs ds) : Dd K H (.ref a) (.list ds)
  | tup {a : Addr} {xs : List V} {ds : List PyData} (h : SqT K H a xs) (t : Dds K H xs ds) : Dd K H (.ref a) (.tuple ds)
  | dic {a : Addr} {kvs : List (Key × V)} {ks vs : List PyData} (h : H a = some (.dK kvs)) (k : Dds K H (kvs.map fun p => kV p.1) ks) (t : Dds K H (kvs.map (·.2)) vs) (l : ks.length = vs.length) : Dd K H (.ref a) (.dict (ks.zip vs))
inductive Dds (K : PySem.W.Frag) (H : Hp) : List V → List PyData → Prop
  | nil : Dds K H [] []
  | cons {v : V} {vs : List V} {d : PyData} {ds : List PyData} (h : Dd K H v d) (t : Dds K H vs ds) : Dds K H (v :: vs) (d :: ds)
end
mutual
theorem Dd.same {K : PySem.W.Frag} {H H' : Hp} (e : ∀ b o, H b = some o → H' b = some o) : ∀ {v : V} {d : PyData}, Dd K H v d → Dd K H' v d
  | _, _, .non => .non
  | _, _, .bl b => .bl b
  | _, _, .int i => .int i
  | _, _, .str x => .str x
  | _, _, .lst h t => .lst (h.ext e) (Dds.same e t)
  | _, _, .tup h t => .tup (h.ext e) (Dds.same e t)
  | _, _, .dic h k t l => .dic (e _ _ h) (Dds.same e k) (Dds.same e t) l
theorem Dds.same {K : PySem.W.Frag} {H H' : Hp} (e : ∀ b o, H b = some o → H' b = some o) : ∀ {v : List V} {d : List PyData}, Dds K H v d → Dds K H' v d
  | _, _, .nil => .nil
  | _, _, .cons h t => .cons (Dd.same e h) (Dds.same e t)
end
/-- the written part holds the dict of the loaded modules (so no list of ours stands there) -/
def smOk (K : PySem.W.Frag) : Bool := match K.lookup sysModules with
  | some ⟨.type c, _, .dict _ _, _⟩ => c == "dict"
  | _ => false
theorem sm_ne {K : PySem.W.Frag} {h : Heap} (X : K.In h) (q : smOk K = true) {a : Addr} {o : Obj} {vs : Array Value} {n : Nat} (ho : h.get? a = some o) (hd : o.data = .seq vs n) : a ≠ sysModules := by
  rintro rfl
  unfold smOk at q
  split at q
  · rename_i c d es ep sl e
    have z := (X _ _ e).symm.trans ho
    cases z
    cases hd
  · cases q
section
variable {X : Cx} {pins : List (Addr × Obj)} {σ : St} {H : Hp} {s : Shared}
theorem pairs_reads {prog : Program} {w : World} {h : Heap} : ∀ {es : List DictEntry} {vs : List (Key × Value)} {kvs : List (Key × V)}, Pairs (mixKind prog w) es vs → KV kvs vs →
    Vals (kvs.map fun p => kV p.1) (es.map (·.key)) ∧ Vals (kvs.map (·.2)) (es.map (·.val))
  | [], _, _, .nil, r => by
    cases r
    exact ⟨.nil, .nil⟩
  | e :: es, _, _, .cons h1 h2 h3, r => by
    cases r with
    | @cons p _ l1 _ a b =>
      obtain ⟨r1, r2⟩ := pairs_reads (h := h) h3 b
      obtain ⟨e1, e2⟩ := a
      have h1' : keyIs p.1 e.key = true := by
        rw [e1]
        exact h1
      refine ⟨.cons ?_ r1, .cons ?_ r2⟩
      · show RelV (kV p.1) e.key
        rcases keyIs_shape h1' with ⟨i, t, ei, z⟩ | ⟨x, t, ei, z⟩
        · rw [ei]
          exact ⟨t, z⟩
        · rw [ei]
          exact ⟨t, z⟩
      · show RelV p.2 e.val
        rw [h2]
        exact e2
mutual
theorem Dd.reads (I : Inv X pins σ H s) (q : smOk X.K = true) : ∀ {d : PyData} {v : V} {u : Value}, Dd X.K H v d → RelV v u → ∃ as, Reads s.heap u d as ∧ sysModules ∉ as
  | _, _, _, .non, r => by
    cases r
    exact ⟨_, Reads.none, by simp⟩
  | _, _, _, .bl b, r => by
    cases r
    exact ⟨_, Reads.bool b, by simp⟩
  | _, _, _, .int i, r => by
    obtain ⟨t, rfl⟩ := r
    exact ⟨_, Reads.int i t, by simp⟩
  | _, _, _, .str x, r => by
    obtain ⟨t, rfl⟩ := r
    exact ⟨_, Reads.str x t, by simp⟩
  | _, _, _, .lst h t, r => by
    cases r
    obtain ⟨its, rv, ⟨o, n, ho, hc, _, hd⟩, _⟩ := I.list h
    obtain ⟨as, hr, hn⟩ := Dds.reads I q t rv
    refine ⟨_, Reads.list ho hc hd hr, fun z => ?_⟩
    rcases List.mem_cons.mp z with z | z
    · exact sm_ne I.kIn q ho hd z.symm
    · exact hn z
  | _, _, _, .tup h t, r => by
    cases r
    obtain ⟨its, rv, ⟨o, ho, hc, n, hd⟩, _⟩ := I.tuple h
    obtain ⟨as, hr, hn⟩ := Dds.reads I q t rv
    exact ⟨_, Reads.tuple ho hc hd hr, hn⟩
  | _, _, _, @Dd.dic _ _ a kvs ks vs h k t l, r => by
    cases r
    obtain ⟨_, hsm, ws, rel, o, es, ep, ho, hx, hd, _, hp, _⟩ := I.hok a _ h
    obtain ⟨rk, rvs⟩ := pairs_reads (h := s.heap) hp rel
    obtain ⟨as, h1, n1⟩ := Dds.reads I q k rk
    obtain ⟨bs, h2, n2⟩ := Dds.reads I q t rvs
    have e1 : (ks.zip vs).map (·.1) = ks := List.map_fst_zip (by omega)
    have e2 : (ks.zip vs).map (·.2) = vs := List.map_snd_zip (by omega)
    refine ⟨_, Reads.dict ho hx.1 hd (by rw [e1]; exact h1) (by rw [e2]; exact h2), fun z => ?_⟩
    rcases List.mem_append.mp z with z | z
    · rcases List.mem_cons.mp z with z | z
      · rw [← z] at hsm
        exact absurd hsm (by decide)
      · exact n1 z
    · exact n2 z
theorem Dds.reads (I : Inv X pins σ H s) (q : smOk X.K = true) : ∀ {ds : List PyData} {vs : List V} {us : List Value}, Dds X.K H vs ds → Vals vs us → ∃ as, ReadsAll s.heap us ds as ∧ sysModules ∉ as
  | _, _, _, .nil, r => by
    cases r
    exact ⟨_, ReadsAll.nil, by simp⟩
  | _, _, _, .cons h t, r => by
    cases r with
    | cons r1 r2 =>
      obtain ⟨as, q1, n1⟩ := Dd.reads I q h r1
      obtain ⟨bs, q2, n2⟩ := Dds.reads I q t r2
      refine ⟨_, ReadsAll.cons q1 q2, fun z => ?_⟩
      rcases List.mem_append.mp z with z | z
      · exact n1 z
      · exact n2 z
end
end
/-- repr of a list, tuple or dict of data -/
def rRepr (K : PySem.W.Frag) : List V → Hp → VK → Prop := fun xs H Q => ∃ a d, xs = [.ref a] ∧ Dd K H (.ref a) d ∧ d.showable = true ∧ d.depth ≤ 20 ∧ d.shown.length ≤ sizeLine ∧ Q (.str d.shown) H
theorem call_reprD {X : Cx} (hg : X.A.guards = some []) (hu : X.A.units + 64 < cLine) (q : smOk X.K = true) : CallR X (.builtin "repr") (rRepr X.K) := by
  intro pins s σ H xs us Q I r h
  obtain ⟨a, d, rfl, hd, hs, hz, hl, k⟩ := h
  obtain ⟨u, rfl, ru⟩ := vals1 r
  cases ru
  obtain ⟨as, hr, hn⟩ := Dd.reads I q hd rfl
  refine repr_of_reads' hr hs (fun _ => hn) hg (by omega) (fun _ _ e => e) (fun h' u tk hk => ?_) hl
  exact ⟨.str d.shown, H, I.kept (t' := tk) hk, ⟨u, rfl⟩, k⟩

/-! ### a promise that is kept where no guard stands around -/
structure FnG (P : Program) (w : World) (K : PySem.W.Frag) (mg : Str → Option Value) (base : Heap) (CX : CXT) (k : Nat) (f : Addr) (fd : FuncData) (ps : List Str) (sp : Sp) : Prop where
  many : ∀ vs H Q E, sp vs H Q E → vs.length = ps.length
  goes : ∀ (A : Around) (outer : List Env) (s : Shared) (H : Hp) (args : Args) (us : List Value) (vs : List V) (Q : VK) (E : XK), A.guards = some [] → Room k A → Env0 P w K mg base A outer s H → BindsTo s fd args (ps.zip us) → Vals vs us → sp vs H Q E →
    codeAny (model P w) A (Code.call (.ref f) args) (CR CX outer P w H s Q E) s
section
variable {P : Program} {w : World} {K : PySem.W.Frag} {mg : Str → Option Value} {base : Heap} {CX : CXT} {x qual : Str} {params : Arguments} {body : List Stmt} {scope : Scope} {dvs : List V} {kws : List (Str × V)} {f : Addr} {fd : FuncData}
/-- a def whose body is read only where no guard stands -/
theorem FunD.okG {N ps : List Str} {k : Nat} {sp : Sp} (F : FunD K x qual params body scope dvs kws f fd) (S : FnScope N ps scope) (len : ∀ vs H Q E, sp vs H Q E → vs.length = ps.length)
    (hbody : ∀ (cdv : Value) (A : Around) (outer : List Env) (s : Shared) (H : Hp) (vs : List V) (Q : VK) (E : XK), A.guards = some [] → Room k (A.deeper (envOfC qual scope s.heap.objs.size f cdv)) → sp vs H Q E →
      ∃ t, PSs (cxOf CX P w K mg base N qual scope f cdv A outer s H E) body t ∧ t { nx := fun _ H' => Q .non H', rt := Q } (start N vs) H) : FnG P w K mg base CX (k + 1) f fd ps sp := by
  refine ⟨len, fun A outer s H args us vs Q E free room e0 bind rel want => ?_⟩
  obtain ⟨_, _, _, _, _, _, _, cdv, _, _, rfl, at_, rec_, _, _⟩ := F.ex
  have KX : K.In s.heap := e0.mod.kin.keeps fun b o e => (e0.bs b o e).1
  have inside : ∀ y : Str × Value, y ∈ ps.zip us → _ := fun y hy => S.par y.1 (List.of_mem_zip hy).1
  refine codeAny_call_function room.depth (KX _ _ at_) rfl S.co S.gen rfl (PySem.W.codeRec_of KX rec_) (bind _ _ _ _ (wpAny_newFunctionEnv_cells S.kind (fun y hy => ?_) fun env eq s1 C => ?_))
  · exact (inside y hy).imp id fun z => ⟨z, PySem.W.cellsFrom_some _ _ _ (.inl z)⟩
  subst eq
  refine ⟨(e0.mod.nolimit.keeps fun b o e => (e0.bs b o e).1).keeps C.toInCall.keep, codeAny_func ?_⟩
  obtain ⟨t, walk, q⟩ := hbody cdv A outer s H vs Q E free (room.deeper _) want
  refine wpAny_mono (walk.run [] s1 (start N vs) H _ (inv_start (CX := CX) (E := E) S room.hd e0 (len _ _ _ _ want) rel C) q) (fun fl s2 y => ?_) fun _ _ y => y
  match fl, y with
  | .next, ⟨_, H2, J, q⟩ => exact ⟨.non, H2, J.os, J.bare, J.base, J.hok, rfl, q⟩
  | .brk, ⟨_, _, _, q⟩ => exact q.elim
  | .cont, ⟨_, _, _, q⟩ => exact q.elim
  | .ret u, ⟨v, _, H2, J, r, q⟩ => exact ⟨v, H2, J.os, J.bare, J.base, J.hok, r, q⟩
end
/-- f(e, ..), no defaults, where no guard stands around -/
theorem pe_callG {X : Cx} {CX : CXT} {k : Nat} {f : Addr} {fd : FuncData} {ps : List Str} {sp : Sp} {E : XK} {x : Str} {p pos : Pos} {e : Expr} {es : List Expr} {t : TA} (F : FnG X.prog X.w X.K X.mg X.base CX k f fd ps sp) (hgu : X.A.guards = some []) (hr : Room k X.A) (hg : Gl X x)
    (hm : X.mg x = some (.ref f)) (hk : PySem.W.keepIn X.K (.ref f) = true) (hb : Binds X.K fd ps []) (hx : Passes CX X E) (ha : PA X (e :: es) t) (hdb : (x == ("__debug__" : Str)) = false := by decide)
    (he : starEach (e :: es) X.env = (false, eval e X.env) :: starEach es X.env := by rfl)
    (hpl : (backTo pos (starEach es X.env)).any (·.1) = false := by rfl) : PE X (.Call (.Name x p) (e :: es) [] pos) (tCall sp [] E t) := by
  constructor
  intro pins s σ H Q I h
  refine wpAny_Call_Name_kw (ld_glob I hg hm (PySem.W.callWith_K (h₀ := X.base) I.ok.mod.kin hk (thn (ha.run pos pins s σ H _ I h) fun us s1 y => ?_) he hpl) hdb)
  obtain ⟨vs, H1, I1, r, q⟩ := y
  have want : sp vs H1 Q E := (List.append_nil vs) ▸ (show sp (vs ++ []) H1 Q E from q)
  have bind := hb s1 us I1.kIn (by rw [List.append_nil, ← r.length]; exact F.many _ _ _ _ want)
  rw [List.append_nil] at bind
  refine ⟨I1.kIn, wpAny_call (codeAny_mono (F.goes X.A X.stack s1 H1 ⟨us, []⟩ us vs Q E hgu hr I1.env0 bind r want) fun r' s2 y => ?_)⟩
  match r', y with
  | .error e, y => exact hx pins σ H1 s1 e s2 I1 y
  | .ok (.ret u), y => exact I1.after y
end L2

/-! The end of a law whose def is promised where no guard stands (FnG), over facts read off the top's heap. -/
namespace L2
open PySem PySem.Spec PyProof.Rows
section
variable {P : Program} {w : World} {K : PySem.W.Frag} {mg mb : Str → Option Value} {CX : CXT} {k : Nat} {fa a : Addr} {fd : FuncData} {x : Str} {sp : Sp} {s₁ : Shared} {vs : List Value} {ns : List Int}
/-- the script's object, and nothing else, may be tracked at the entry -/
structure EntryHp (K : PySem.W.Frag) (s : Shared) (a : Addr) (vs : List Value) (ns : List Int) (H : Hp) : Prop where
  one : ∀ b, H b = none ∨ (b = a ∧ K.lookup a = none ∧ H b = some (.frz { cls := .type "list", data := .seq vs.toArray } (.lst (ns.map V.int))))
  seq : SqL K H a (ns.map V.int)
theorem EntryHp.made (KX : K.In s₁.heap) (ha : s₁.heap.get? a = some { cls := .type "list", data := .seq vs.toArray }) (hi : IntsAre vs ns) (hl : ns.length ≤ sizeLine) : ∃ H, EntryHp K s₁ a vs ns H := by
  cases e : K.lookup a with
  | some o =>
    obtain rfl := Option.some.inj (ha.symm.trans (KX a o e))
    exact ⟨fun _ => none, fun _ => .inl rfl, .inr ⟨_, vs.toArray, _, e, rfl, rfl, rfl, by rw [List.size_toArray, hi.length]; exact hl, by simpa using vals_ints hi⟩⟩
  | none =>
    refine ⟨upd (fun _ => none) a (.frz { cls := .type "list", data := .seq vs.toArray } (.lst (ns.map V.int))), fun b => ?_, .inl (.inr ⟨_, upd_same⟩)⟩
    by_cases hb : b = a
    · subst hb
      exact .inr ⟨rfl, e, upd_same⟩
    · exact .inl (upd_ne hb)
theorem law_callG (KX : K.In s₁.heap) (hns : s₁.heap.Ns mainGlobals mg) (hb : s₁.heap.Ns builtinsNs mb) (hbb : ∀ y : Str, y ≠ "__name__" → mb y = bootBuiltins y) (hlim : s₁.heap.NoLimit) (hg : s₁.gens = #[])
    (ha : s₁.heap.get? a = some { cls := .type "list", data := .seq vs.toArray })
    (hi : IntsAre vs ns) (hl : ns.length ≤ sizeLine) (hr : Room k callerA)
    (F : ∀ base : Heap, K.In base → base.Ns mainGlobals mg → FnG P w K mg base CX k fa fd [x] sp) (hbind : ∀ (s : Shared) (u : Value), BindsTo s fd ⟨[u], []⟩ [(x, u)])
    (hsp : ∀ H : Hp, SqL K H a (ns.map V.int) → sp [.ref a] H (fun v _ => v = .bl true) E0) (hCX : ∀ H e s', CX [] H s₁ E0 e s' → False) :
    codeAny (model P w) callerA (.call (.ref fa) ⟨[.ref a], []⟩)
      (fun r s' => r = .ok (.ret (.bool true)) ∧ OldK s₁.heap s'.heap ∧ s'.os = s₁.os ∧ AllBare s'.gens) s₁ := by
  obtain ⟨H, EH⟩ := EntryHp.made KX ha hi hl
  -- what is no list of the script's stands in the heap without what is tracked
  have dicts : ∀ {b m}, s₁.heap.Ns b m → (hidT s₁.heap H).Ns b m := fun {b m} ⟨o, es, ep, e, d, r⟩ => by
    refine ⟨o, es, ep, hidT_get e ?_, d, r⟩
    rcases EH.one b with z | ⟨z, _⟩
    · exact z
    · rw [z, ha] at e
      cases e
      cases d
  have KB : K.In (hidT s₁.heap H) := fun b o e => hidT_get (KX b o e) (by
    rcases EH.one b with z | ⟨z, n, _⟩
    · exact z
    · rw [z, n] at e
      cases e)
  have ok : HOk P w H s₁.heap := fun b u e => by
    rcases EH.one b with z | ⟨z, _, q⟩
    · rw [z] at e
      cases e
    · rw [q] at e
      cases e
      subst z
      exact ⟨ha, by rw [List.length_map]; exact hl, vs, _, vals_ints hi, ha⟩
  obtain ⟨mc, l1, l2⟩ := hlim
  have e0 : Env0 P w K mg (hidT s₁.heap H) callerA [] s₁ H :=
    ⟨rfl, ⟨KB, dicts hns, ⟨mb, dicts hb, hbb⟩, ⟨mc, dicts l1, l2⟩⟩, fun _ _ e => of_hidT e, Nat.le_of_eq (hidT_size _ _), trivial, fun b hb => (List.not_mem_nil hb).elim, ok, .of_eq hg⟩
  refine codeAny_mono ((F _ KB (dicts hns)).goes callerA [] s₁ H ⟨[.ref a], []⟩ [.ref a] [.ref a] _ E0 rfl hr e0 (hbind s₁ (.ref a)) (.cons rfl .nil) (hsp H EH.seq)) fun r s' h => ?_
  rcases r with e | (_ | _ | _ | u)
  · exact (hCX H e s' h).elim
  · exact False.elim h
  · exact False.elim h
  · exact False.elim h
  obtain ⟨v, H', os, bare, un, ok', rv, q⟩ := h
  obtain rfl : v = .bl true := q
  obtain rfl : u = Value.bool true := rv
  refine ⟨rfl, OldK.of_keep (fun b o e => ?_), os, bare⟩
  rcases EH.one b with z | ⟨_, _, z⟩
  · exact un.keep b o e z (fun y => List.not_mem_nil y) (fun y => List.not_mem_nil y)
  · have e1 := (ok b _ z).1
    rw [e] at e1
    cases e1
    exact (ok' b _ (un.frzs b _ _ z)).1
end
/-- a law: G gives the written part, the function object, the promise over every base -/
theorem walk_ofG {l : PySem.W.OpenLaw} {n k : Nat} {q : Program} {loose : List Str} {XP : (Str → Option Value) → Heap → Prop} {YP : World → Heap → Prop} {d : DefRec} {CX : CXT} {x : Str}
    (hn : l.most = some n) (hn2 : n ≤ sizeLine)
    (hdf : d.params.defaults = []) (hr : Room k callerA)
    (G : ∀ (w : World) (mg : Str → Option Value) (fa : Addr) (h : Heap), YP w h → h.Ns mainGlobals mg → mg d.name = some (.ref fa) →
      ∃ (K : PySem.W.Frag) (fd : FuncData) (sp : Sp), K.In h ∧
        (∀ (s : Shared) (u : Value), BindsTo s fd ⟨[u], []⟩ [(x, u)]) ∧
        (∀ (H : Hp) (a : Addr) (ns : List Int), ns.length ≤ n → SqL K H a (ns.map V.int) → sp [.ref a] H (fun v _ => v = .bl true) E0) ∧
        ∀ base : Heap, K.In base → base.Ns mainGlobals mg → FnG l.prog w K mg base CX k fa fd [x] sp)
    (hCX : ∀ (H : Hp) (s : Shared) (e : Value) (s' : Shared), CX [] H s E0 e s' → False) : PySem.W.WalkO q loose XP YP l.row.toRowW d [] (fun f vs => PySem.call f vs) := by
  refine Att.attach_call hn hdf fun w s₀ s₁ mg mb fa o pm cd doc a vs ns T Y _ _ _ hmg hobj hints hlen hg => ?_
  obtain ⟨K, fd, sp, KX, hb, hsp, hF⟩ := G w mg fa _ Y T.T.g hmg
  exact law_callG KX T.T.g T.T.b T.T.builtins T.T.nolimit hg hobj hints (Nat.le_trans hlen hn2) hr hF hb (fun H hS => hsp H a ns hlen hS) fun H e s' => hCX H s₁ e s'
end L2
namespace He
open PySem PySem.Spec PyProof.Rows L2
/-! ### the head's facts with a check of one's own beside them; the dict of the loaded modules is part of what is read -/
abbrev AlX : Type := Bool × AlD
def obsX (xf : PySem.W.Frag → Bool) (fa : List Fa) (fn : List DefD) (K : PySem.W.Frag) : AlX := (xf K, obsD fa fn K)
def obsXG (n : Nat) (xf : PySem.W.Frag → Bool) (fa : List Fa) (fn : List DefD) (g : Addr → Option Obj) : AlX := obsX xf fa fn (frG g (sysModules :: asD g n))
def SaysX (xf : PySem.W.Frag → Bool) (fa : List Fa) (fn : List DefD) (K : PySem.W.Frag) : Prop := xf K = true ∧ SaysD fa fn K
def hookX (n : Nat) (xf : PySem.W.Frag → Bool) (fa : List Fa) (fn : List DefD) : PySem.W.Hook where
  α := AlX
  obs := fun s => obsXG n xf fa fn s.heap.get?
  val := fun _ => (true, valD fn)
  says := fun _ h => ∃ K : PySem.W.Frag, K.In h ∧ SaysX xf fa fn K
  of := fun _ _ e => ⟨_, frG_in, congrArg Prod.fst e, congrArg Prod.snd e⟩
  keeps := fun _ _ _ y k => y.imp fun _ z => ⟨PySem.W.Frag.In.keeps z.1 k, z.2⟩
theorem obsXG_eq {n : Nat} {xf : PySem.W.Frag → Bool} {fa : List Fa} {fn : List DefD} {g : Addr → Option Obj} {s : Shared} (h : ∀ a, g a = s.heap.get? a) : obsXG n xf fa fn g = (hookX n xf fa fn).obs s := by
  obtain rfl : g = s.heap.get? := funext h
  rfl
end He

/-! Readings, one construct at a time (for a tactic that goes on as long as one of these fits). -/
namespace Rd
open PySem PySem.Spec PyProof.Rows L2
section
variable {σ : L2.St} {H : Hp} {i : Nat} {v x y : V} {ta tb te : TE} {t tr : TA} {r : R2} {Q : VK} {QA : List V → Hp → Prop} {QB : Bool → Hp → Prop} {D : Ends} {t1 t2 : TS} {tt uu : TT} {xs : List V} {K : PySem.W.Frag} {f : Str} {te : TE}
theorem var (h : σ[i]? = some (some v)) (q : Q v H) : tVar i σ H Q := ⟨v, h, q⟩
theorem c (q : Q v H) : tC v σ H Q := q
theorem op (h : ta σ H fun x H1 => tb σ H1 fun y H2 => r x y H2 Q) : tOp r ta tb σ H Q := h
theorem un {ru : V → Hp → VK → Prop} (h : ta σ H fun x H1 => ru x H1 Q) : tUn ru ta σ H Q := h
theorem cb {rc : List V → Hp → VK → Prop} (h : t σ H fun vs H1 => rc vs H1 Q) : tCB rc t σ H Q := h
theorem cons (h : ta σ H fun x H1 => tr σ H1 fun xs H2 => QA (x :: xs) H2) : tCons ta tr σ H QA := h
theorem nil (h : QA [] H) : tNil σ H QA := h
theorem ifx (h : tt σ H fun c H1 => if c = true then ta σ H1 Q else tb σ H1 Q) : tIf tt ta tb σ H Q := h
theorem test (h : te σ H fun x H1 => ∃ k, x = .bl k ∧ QB k H1) : tTest te σ H QB := h
theorem testB (h : te σ H fun x H1 => ∃ k, x = .bl k ∧ QB k H1) : tB te σ H QB := h
theorem isB {k : Bool} {P : Bool → Prop} (h : P k) : ∃ k', V.bl k = .bl k' ∧ P k' := ⟨k, rfl, h⟩
theorem i0 {g : Int → Int → V} {a b : Int} (q : Q (g a b) H) : rI0 g (.int a) (.int b) H Q := ⟨a, b, rfl, rfl, q⟩
theorem iC {C : Int → Int → Prop} {g : Int → Int → V} {a b : Int} (h : C a b) (q : Q (g a b) H) : rI C g (.int a) (.int b) H Q := ⟨a, b, rfl, rfl, h, q⟩
theorem neg {a : Int} (q : Q (.int (-a)) H) : rU (fun i => .int (-i)) (.int a) H Q := ⟨a, rfl, q⟩
theorem lst (h : t σ H fun xs H1 => xs.length ≤ sizeLine ∧ ∀ p, H1 p = none → Q (.ref p) (upd H1 p (.lst xs))) : tLst t σ H Q := h
theorem tup (h : t σ H fun xs H1 => xs.length ≤ sizeLine ∧ ∀ p, H1 p = none → Q (.ref p) (upd H1 p (.tup xs))) : tTup t σ H Q := h
theorem small {n : Nat} (h : n ≤ 100000) : n ≤ sizeLine := Nat.le_trans h (by decide)
theorem seq (h : t1 { D with nx := t2 D } σ H) : tSeq t1 t2 D σ H := h
theorem asg (h : te σ H fun x H1 => D.nx (σ.set i (some x)) H1) : tAsg te (gName i) D σ H := h
theorem asgG {g : TG} (h : te σ H fun x H1 => g x σ H1 D.nx) : tAsg te g D σ H := h
theorem gNm {P : L2.St → Hp → Prop} (h : P (σ.set i (some v)) H) : gName i v σ H P := h
theorem gSb {ts : TSet} {P : L2.St → Hp → Prop} (h : ta σ H fun o H1 => tb σ H1 fun i H2 => ts o i v H2 fun H3 => P σ H3) : gSub ta tb ts v σ H P := h
theorem setL {p : Addr} {k : Int} {j : Nat} {P : Hp → Prop} (h : H p = some (.lst xs)) (e : ixN xs.length k = some j) (q : P (upd H p (.lst (xs.set j v)))) : rSetL (.ref p) (.int k) v H P := ⟨p, xs, k, j, rfl, rfl, h, e, q⟩
theorem gC {t : TG} {u : TGs} {vs : List V} {P : L2.St → Hp → Prop} (h : t v σ H fun s1 H1 => u vs s1 H1 P) : gCons t u (v :: vs) σ H P := ⟨v, vs, rfl, h⟩
theorem gN {P : L2.St → Hp → Prop} (h : P σ H) : gNil [] σ H P := ⟨rfl, h⟩
theorem lcl {tl : TE} {g : TG} {vs : List Nat} (h : tl σ H fun x H1 => ∃ a, x = .ref a ∧ (∃ xs, SqL K H1 a xs) ∧ ∀ D, H1 D = none → ∃ W : Nat → Nat → Hp → Prop, (∃ m, W 0 m (upd H1 D (.lst []))) ∧ ∀ i m H, W i m H →
    ((Itl K a).stop i H ∧ Q (.ref D) H) ∨ ((Itl K a).go i H ∧ ∃ Nx : Hp → Prop, (∀ H', Nx H' → ∃ m', m' < m ∧ W (i + 1) m' H') ∧ ∀ x H', (Itl K a).yld i H x H' → g x (wipe σ vs) H' fun σ2 H2 => wipe σ2 vs = wipe σ vs ∧ tt σ2 H2 fun b H3 =>
      if b = true then te σ2 H3 fun y H4 => ∃ acc, H4 D = some (.lst acc) ∧ acc.length < sizeLine ∧ Nx (upd H4 D (.lst (acc ++ [y]))) else Nx H3)) : tLc (iList K tl) g tt te vs σ H Q := h
theorem ret (h : te σ H D.rt) : tRet te D σ H := h
theorem nxt (h : D.nx σ H) : tNext D σ H := h
theorem ifS (h : tt σ H fun b H1 => if b = true then t1 D σ H1 else t2 D σ H1) : tIfS tt t1 t2 D σ H := h
theorem notT (h : tt σ H fun b H1 => QB (!b) H1) : tNot tt σ H QB := h
theorem eqS (h : scal x y = true) (q : Q (.bl (decide (x = y))) H) : rEq x y H Q := ⟨h, q⟩
theorem neS (h : scal x y = true) (q : Q (.bl (!decide (x = y))) H) : rNe x y H Q := ⟨h, q⟩
theorem ixL {p : Addr} {a : Int} (h : SqL K H p xs) (e : atI xs a = some v) (q : Q v H) : rIxL K (.ref p) (.int a) H Q := ⟨p, xs, a, v, rfl, rfl, h, e, q⟩
theorem ifB {k : Bool} {A B : Prop} (h1 : k = true → A) (h2 : k = false → B) : if k = true then A else B := by
  cases k with
  | true => exact iteT (h1 rfl)
  | false => exact iteF (h2 rfl)
theorem call {sp : Sp} {E : XK} (h : t σ H fun vs H1 => sp (vs ++ []) H1 Q E) : tCall sp [] E t σ H Q := h
end
end Rd

/-! A try of several clauses `except C as n`: each clause is a link of its own, so that they chain to any length. -/
namespace L2
open PySem PySem.Spec PyProof.Rows
section
variable {X : Cx} {pins : List (Addr × Obj)} {σ : St} {H : Hp} {cls : Value} {d : Option Addr} {a : Addr} {B : Heap} {s₀ s : Shared}
/-- the exception at a stands caught in s; s₀ is the state that was known when it was thrown -/
structure Caught (X : Cx) (pins : List (Addr × Obj)) (σ : St) (H : Hp) (cls : Value) (d : Option Addr) (a : Addr) (B : Heap) (s₀ s : Shared) : Prop where
  inv : Inv X pins σ H s₀
  own : ∀ b o, s₀.heap.get? b = some o → b ∉ frs X.stack → B.get? b = some o
  up : s₀.heap.UpToSlots s.heap
  fly : HandSPX.FlyingZ B X.stack a (Zc cls d) s.heap
  new : H a = none
  os : s.os = s₀.os
  bare : AllBare s.gens
theorem Caught.now (c : Caught X pins σ H cls d a B s₀ s) : Inv X pins σ H s := c.inv.landed c.own c.fly.1 c.up c.os c.bare
theorem Caught.on (c : Caught X pins σ H cls d a B s₀ s) {h : Heap} (f : HandSPX.FlyingZ B X.stack a (Zc cls d) h) (u : s.heap.UpToSlots h) : Caught X pins σ H cls d a B s₀ { s with heap := h } :=
  { c with up := c.up.trans u, fly := f }
/-- what a suite of such an exception begins with -/
theorem Caught.inside (c : Caught X pins σ H cls d a B s₀ s) (hf : X.env.frame = some X.env.locals) (hs : X.stack = X.env :: X.outer) :
    ∃ oe, Zc cls d oe ∧ (∃ vs, oe.data = .fields vs) ∧ s.heap.get? a = some oe ∧ Inv (X.suite a ((a, oe) :: (X.pn ++ pins))) [] σ H s := by
  obtain ⟨oe, vs, ea, ez, ed⟩ := c.fly.there
  have far : a ∉ frs (X.env :: X.outer) := fun m => by
    obtain ⟨_, o, e, n⟩ := (hs ▸ c.fly.2.2.1 : s.heap.FunFrames B (X.env :: X.outer)).mem m
    rw [ea] at e
    exact n vs (Option.some.inj e ▸ ed)
  refine ⟨oe, ez, ⟨vs, ed⟩, ea, c.now.suite ea ed c.new (fun e => far ?_) fun m => far ?_⟩
  · exact List.mem_filterMap.mpr ⟨X.env, List.mem_cons_self, e ▸ hf⟩
  · obtain ⟨y, hy, z⟩ := List.mem_filterMap.mp m
    exact List.mem_filterMap.mpr ⟨y, List.mem_cons_of_mem _ hy, z⟩
end
section
variable {X : Cx} {hds : List ExceptHandler} {x n : Str} {c : Value} {i : Nat} {body suite : List Stmt} {b₀ : Stmt} {h₀ : ExceptHandler} {np pos pos' : Pos} {tb : WX → TS} {ts : Addr → Value → Option Addr → TS} {Wout : WX} {W : Ends → WX}
/-- the clauses answer every caught exception of which W is true -/
def Clauses (X : Cx) (hds : List ExceptHandler) (W : Ends → WX) : Prop := ∀ (pins : List (Addr × Obj)) (D : Ends) (σ : St) (H : Hp) (cls : Value) (d : Option Addr) (a : Addr) (B : Heap) (s₀ s : Shared),
  Caught X pins σ H cls d a B s₀ s → W D cls d σ H → wpAny (model X.prog X.w) X.A (handleBy (.ref a) X.env hds) (SP X pins D) X.xe s
/-- no clause is left: it goes on -/
theorem clauses_nil (hf : X.env.frame = some X.env.locals) (tk : Takes X Wout) : Clauses X [] fun _ => Wout := by
  intro pins D σ H cls d a B s₀ s c w
  obtain ⟨_, _, _, oe, vs, t, _, _, ea, _, ed, e1, _⟩ := id c.fly
  have out : wpAny (model X.prog X.w) X.A (setFlight (.ref a) X.env.frame) (fun _ s' => wpAny (model X.prog X.w) X.A (throw (.ref a) : Sem Flow) (SP X pins D) X.xe s') X.xe s := hf ▸
    HandSPX.setFlight_upZ c.fly fun h' hh u => wpAny_throw (tk _ _ ⟨a, B, s₀, pins, σ, H, cls, d, rfl, c.inv, c.own, c.up.trans u, .inr (.inr hh), c.new, c.os, c.bare, w⟩)
  refine wpAny_handleBy_nil ?_
  show wpAny _ _ (passOn _ _ _) _ _ _
  unfold PySem.passOn
  refine wpAny_bind (wpAny_field ea ed e1 ?_)
  rw [if_neg (show ¬ ((Value.ref t == Value.none) = true) by simp)]
  first
    | exact wpAny_bind out
    | exact wpAny_bind (wpAny_pure (wpAny_bind out))
/-- a clause `except x as n: suite`, n in slot i, before further ones -/
theorem clauses_as (hs : X.stack = X.env :: X.outer) (hf : X.env.frame = some X.env.locals) (hN : X.N.Nodup) (hi : X.N[i]? = some n) (hln : X.env.kindOf n = some .local) (hc : Names X x c)
    (hsu : ∀ (a : Addr) (oe : Obj) (cls : Value) (d : Option Addr) (pn : List (Addr × Obj)), Zc cls d oe → (∃ vs, oe.data = .fields vs) → PSs (X.suite a ((a, oe) :: pn)) (b₀ :: suite) (ts a cls d)) (r : Clauses X hds W) :
    Clauses X (.ExceptHandler (some (.Name x np)) (some n) (b₀ :: suite) pos' :: hds) fun D => wAs X.K c i ts (W D) D := by
  intro pins D σ H cls d a B s₀ s k w
  obtain ⟨b, hb, yes, no⟩ := w
  obtain ⟨oe, ez, ed, ea, inn⟩ := k.inside hf hs
  refine wpAny_handleBy_cons (codeAny_handlers_test ?_) fun q => nomatch q
  have asks : ∀ {Q : Value → Shared → Prop} {E : Value → Shared → Prop}, Q c s → wpAny (model X.prog X.w) (X.A.mark (some (.ref a))) (eval (.Name x np) X.env) Q E s := fun q =>
    match hc with
    | ⟨g, db, .inl m⟩ => ld_glob (X := X.suite a ((a, oe) :: (X.pn ++ pins))) inn g m q db
    | ⟨g, db, .inr ⟨m, v, nn⟩⟩ => ld_blt (X := X.suite a ((a, oe) :: (X.pn ++ pins))) inn g m v q nn db
  refine asks ((PySem.W.exm_one (M := model X.prog X.w) k.now.kIn (fun A Q E s' l q => wpAny_typeOf_ref (l _ _ ea) (by rw [ez.1]; exact q)) hb).here ?_)
  cases b with
  | false => exact r pins D σ H cls d a B s₀ s k (no rfl)
  | true =>
    refine codeAny_handlers_suite_as (HandSPX.lands_againZ k.fly fun h' f' u' => ?_)
    have k' := k.on f' u'
    obtain ⟨oe', ez', ed', ea', inn'⟩ := k'.inside hf hs
    refine store_ok (X := X.suite a ((a, oe') :: (X.pn ++ pins))) (v := .ref a) inn' hN hi (.inl hln) rfl (fun s1 J => ?_) (.inr hln)
    refine wpAny_mono ((hsu a oe' cls d (X.pn ++ pins) ez' ed').run [] s1 _ H _ J (yes rfl a k.new)) (fun fl s2 q => ?_) fun _ _ z => z.elim
    rcases fl with _ | _ | _ | v
    · obtain ⟨σ2, H2, J2, z⟩ := q
      exact gone_ok (J2.unsuite k.inv.ok) hN hi hln fun s3 J3 => ⟨_, _, J3, z⟩
    · obtain ⟨σ2, H2, J2, z⟩ := q
      exact gone_ok (J2.unsuite k.inv.ok) hN hi hln fun s3 J3 => ⟨_, _, J3, z⟩
    · obtain ⟨σ2, H2, J2, z⟩ := q
      exact gone_ok (J2.unsuite k.inv.ok) hN hi hln fun s3 J3 => ⟨_, _, J3, z⟩
    · obtain ⟨y, σ2, H2, J2, ry, z⟩ := q
      exact gone_ok (J2.unsuite k.inv.ok) hN hi hln fun s3 J3 => ⟨_, _, _, J3, ry, z⟩
/-- try: body, then the clauses -/
theorem ps_try_cl (hs : X.stack = X.env :: X.outer) (hf : X.env.frame = some X.env.locals)
    (hb : ∀ (W : WX) (pn : List (Addr × Obj)) (xe : Value → Shared → Prop), Takes (X.tr pn xe) W →
      PassesOwn (model X.prog X.w) X.A X.env xe → PSs (X.tr pn xe) body (tb W))
    (hc : Clauses X (h₀ :: hds) W) : PS X (.Try body (h₀ :: hds) [] [] pos) (fun D σ H => tb (W D) D σ H) := by
  refine ⟨fun pins s σ H D I h => wpAny_Try_except ?_⟩
  refine wpAny_mono ((hb (W D) (X.pn ++ pins) (fun e s₁ => wpAny (model X.prog X.w) X.A (noteFrame e X.env) (fun _ s₂ => wpAny (model X.prog X.w) X.A (setFlight e none) (fun _ s₃ =>
    wpAny (model X.prog X.w) X.A (handleBy e X.env (h₀ :: hds)) (SP X pins D) X.xe s₃) X.xe s₂) X.xe s₁) (fun u s' z => ?_) PassesOwn.looking).run [] s σ H D (I.toTry _) h) (fun fl s1 q => ?_) fun _ _ z => z
  · obtain ⟨a, B, sI, pn', σ', H', cls, d, rfl, J, own, up, sky, na, os, ag, w⟩ := z
    refine Sky.land Zc.steady (I.ok.frames.trans (congrArg some hs)) hf (hs ▸ sky) fun h' f' u' => ?_
    exact hc pins D σ' H' cls d a B sI _ ⟨J.ofTry I.ok, own, up.trans u', hs ▸ f', na, os, ag⟩ w
  · rcases fl with _ | _ | _ | v
    · obtain ⟨σ2, H2, J, z⟩ := q
      exact wpAny_execs_nil ⟨σ2, H2, J.ofTry I.ok, z⟩
    · obtain ⟨σ2, H2, J, z⟩ := q
      exact ⟨σ2, H2, J.ofTry I.ok, z⟩
    · obtain ⟨σ2, H2, J, z⟩ := q
      exact ⟨σ2, H2, J.ofTry I.ok, z⟩
    · obtain ⟨y, σ2, H2, J, ry, z⟩ := q
      exact ⟨y, σ2, H2, J.ofTry I.ok, ry, z⟩
end
end L2

/-! != of an instance that has == alone (both answers). -/
namespace PySem.W
open PySem PySem.Calls PyProof.Rows Builtin
section
variable {prog : Program} {w : World} {A : Around} {E : Value → Shared → Prop} {s : Shared} {K : Frag} {x C L f : Addr} {h₀ : Heap} {m : Str → Option Value} {ox : Obj} {od : Option Obj} {b tb : Value}
def NotBack (Q : Value → Shared → Prop) (v : Value) (s' : Shared) : Prop := ∃ k, v = .bool k ∧ Q (.bool (!k)) s'
theorem bound_B {M : Model} {name : Str} {id : String} {args : List Value} {Q : Option Value → Shared → Prop} (X : K.In s.heap) (I : InstAt s.heap x ox C od) (hs : findIn K (.ref C) name = some (some (.builtin id)))
    (hb : ∀ self, bindSpecial (.builtin id) self = pure (.builtin id, [self])) (h : wpAny M A (call (.builtin id) (.ref x :: args)) (fun v => Q (some v)) E s) : wpAny M A (callSpecialIfBound? (.ref x) name args) Q E s := by
  simp only [callSpecialIfBound?, bindSpecialIfBound?]
  refine wpAny_holding (wpAny_bind (wpAny_bind (wpAny_bind (I.type.here ((looks_findIn X hs).here ?_)))))
  refine wpAny_bind (wpAny_askSetting (wpAny_ite ?_))
  have fin : wpAny M A (call (.builtin id) ([.ref x] ++ args) >>= fun v => pure (some v)) Q E s := wpAny_bind (wpAny_mono h (fun v s' h' => wpAny_pure h') fun _ _ h' => h')
  split
  · exact wpAny_bind ((Looks.of_pure (hb _)).here (wpAny_pure (by exact fin)))
  · exact wpAny_tryCatch (wpAny_bind ((Looks.of_pure (hb _)).here (wpAny_pure (by exact fin))))
theorem own_ne {Q : Value → Shared → Prop} (hu0 : A.units < cLine) (hu : A.in1.units < cLine) (F : Fr h₀ L s.heap m) (X₀ : K.In h₀) (I : InstAt s.heap x ox C od) (hb : Looks (model prog w) s.heap (typeOf b) tb) (hn : notFirst K C tb = true)
    (hs : findIn K (.ref C) "__eq__" = some (some (.ref f))) (hf : isFn K (.ref f) = true) (hne : findIn K (.ref C) "__ne__" = some (some (.builtin "object.__ne__"))) (hm : mroIn K C (.type "object") = some true)
    (h : wpAny (model prog w) A.in1 (call (.ref f) [.ref x, b]) (NotBack Q) E s) : wpAny (model prog w) A (richCompare .NotEq (.ref x) b) Q E s := by
  have X := X₀.keeps F.keep
  have one : wpAny (model prog w) A (tryCompare (.ref x) (cmpInfo .NotEq).2.1 b) (fun r s' => ∃ v, r = some v ∧ Q v s') E s := by
    unfold tryCompare
    refine wpAny_bind (bound_B X I hne PySem.F.cmp_object.ne.bind ?_)
    refine wpAny_call (codeAny_call_builtin PySem.F.cmp_object.ne.plain PySem.F.cmpEntry_ne (check_slot (i := "object.__ne__") (owner := "object") (n := "__ne__") PySem.F.cmpKind_ne PySem.F.cmpSplit_ne (I.type.andThen (looks_mroIn X hm)) (PySem.F.cmpArgs_ne _ _) ?_))
    unfold Builtin.«object.__ne__»
    refine wpAny_bind (m := slotArgs "__ne__" 1 _) (wpAny_pure ?_)
    refine wpAny_bind (m := cRoomFor _ _) (wpAny_cRoomFor hu ?_)
    refine wpAny_bind (m := callSpecialIfBound? (.ref x) (Str.ofString "__eq__") _) (ifBound_K X I hs hf (wpAny_mono h (fun r s' hq => ?_) fun _ _ y => y))
    obtain ⟨k, rfl, hq⟩ := hq
    refine wpAny_bind (m := truthy (.bool k)) (wpAny_truthy_bool ?_)
    exact wpAny_pure (wpAny_pure ⟨_, rfl, hq⟩)
  unfold richCompare
  simp only [oneThing_ref]
  refine wpAny_holding (wpAny_bind (wpAny_cRoomFor hu0 ?_))
  refine wpAny_bind (I.type.here (wpAny_bind (hb.here ?_)))
  split
  · rename_i q
    have e : subIn K tb (.ref C) = some false := by
      rcases Bool.or_eq_true_iff.mp hn with e | e
      · rw [beq_iff_eq.mp e] at q; simp at q
      · exact beq_iff_eq.mp e
    refine wpAny_bind ((looks_subIn X e).here ?_)
    simp only [Bool.false_eq_true, if_false]
    refine wpAny_bind (wpAny_mono one (fun r s' z => ?_) fun _ _ e => e)
    obtain ⟨v, rfl, hq⟩ := z
    exact wpAny_pure hq
  · refine wpAny_bind (wpAny_pure ?_)
    simp only [Bool.false_eq_true, if_false]
    refine wpAny_bind (wpAny_mono one (fun r s' z => ?_) fun _ _ e => e)
    obtain ⟨v, rfl, hq⟩ := z
    exact wpAny_pure hq
end
end PySem.W

/-! Own methods of instances that a built-in calls: repr(x), str(x), x == y and x != y with both answers; {x!r} of data. -/
namespace L2
open PySem PySem.Spec PyProof.Rows
section
variable {X : Cx} {CX : CXT} {n : Nat} {C f : Addr} {fd : FuncData} {ps : List Str} {sp : Sp} {E : XK}
theorem FnOk.g {P : Program} {w : World} {K : PySem.W.Frag} {mg : Str → Option Value} {base : Heap} (F : FnOk P w K mg base CX n f fd ps sp) : FnG P w K mg base CX n f fd ps sp :=
  ⟨F.len, fun A outer s H args us vs Q E _ => F.run A outer s H args us vs Q E⟩
theorem FnG.mono {P : Program} {w : World} {K : PySem.W.Frag} {mg : Str → Option Value} {base : Heap} {j k : Nat} (F : FnG P w K mg base CX j f fd ps sp) (h : j ≤ k) : FnG P w K mg base CX k f fd ps sp :=
  ⟨F.many, fun A outer s H args us vs Q E g r => F.goes A outer s H args us vs Q E g (r.mono h)⟩
/-- a def at f called below the running body, with values that are there -/
theorem call_at (F : FnG X.prog X.w X.K X.mg X.base CX n f fd ps sp) (hb : Binds X.K fd ps []) (hx : Passes CX X E) {A : Around} (sb : Sub X n A) (hgu : A.guards = some []) {pins : List (Addr × Obj)} {s : Shared} {σ : St} {H : Hp} {vs : List V} {us : List Value} {Q : VK}
    (I : Inv X pins σ H s) (r : Vals vs us) (h : sp vs H Q E) : wpAny (model X.prog X.w) A (call (.ref f) us) (EP X pins σ Q) X.xe s := by
  have e0 : Env0 X.prog X.w X.K X.mg X.base A X.stack s H := by
    have e := I.env0
    exact ⟨by rw [sb.fr]; exact e.frames, e.mod, e.bs, e.bsz, e.funs, e.frf, e.hok, e.bare⟩
  have hl := F.many _ _ _ _ h
  have bind := hb s us I.kIn (by rw [List.append_nil, ← r.length]; exact hl)
  rw [List.append_nil] at bind
  refine wpAny_call (codeAny_mono (F.goes A X.stack s H ⟨us, []⟩ us vs Q E hgu sb.room e0 bind r h) fun r' s2 y => ?_)
  match r', y with
  | .error e, y => exact hx pins σ H s e s2 I y
  | .ok (.ret u), y => exact I.after y
/-- an own method of the class, by its name -/
structure OwnM (K : PySem.W.Frag) (C : Addr) (x : Str) (f : Addr) : Prop where
  find : PySem.W.findIn K (.ref C) x = some (some (.ref f))
  fn : PySem.W.isFn K (.ref f) = true
/-- what an own __repr__ or __str__ is called for -/
def rShow (C : Addr) (sp : Sp) (E : XK) : List V → Hp → VK → Prop := fun xs H Q => ∃ a dx fs, xs = [.ref a] ∧ H a = some (.ins C dx fs) ∧ sp [.ref a] H (fun v H' => ∃ y, v = .str y ∧ Q (.str y) H') E
theorem call_reprI (F : FnG X.prog X.w X.K X.mg X.base CX n f fd ps sp) (m : OwnM X.K C "__repr__" f) (hb : Binds X.K fd ps []) (hx : Passes CX X E) (hgu : X.A.guards = some []) (hr : Room (n + 1) X.A) :
    CallR X (.builtin "repr") (rShow C sp E) := by
  intro pins s σ H xs us Q I r h
  obtain ⟨a, dx, fs, rfl, ha, h⟩ := h
  obtain ⟨u, rfl, ru⟩ := vals1 r
  cases ru
  obtain ⟨mA, J, _⟩ := ins_get I.hok ha
  obtain ⟨od, J, _⟩ := J.look
  obtain ⟨m', hF⟩ := I.fr
  have sb : Sub X n X.A.in1 := Sub.in1 ⟨hr, rfl⟩
  refine PySem.W.repr_K sb.room.units0 hF I.ok.mod.kin J m.find m.fn (wpAny_mono (call_at (vs := [V.ref a]) F hb hx sb hgu I (.cons rfl .nil) h) (fun v s' z => ?_) fun _ _ y => y)
  obtain ⟨v, H', I', rv, y, rfl, q⟩ := z
  obtain ⟨t, rfl⟩ := rv
  exact ⟨.str y, H', I', ⟨t, rfl⟩, q⟩
theorem call_strI (F : FnG X.prog X.w X.K X.mg X.base CX n f fd ps sp) (m : OwnM X.K C "__str__" f) (hb : Binds X.K fd ps []) (hx : Passes CX X E) (hgu : X.A.guards = some []) (hr : Room (n + 2) X.A) :
    CallR X (.type "str") (rShow C sp E) := by
  intro pins s σ H xs us Q I r h
  obtain ⟨a, dx, fs, rfl, ha, h⟩ := h
  obtain ⟨u, rfl, ru⟩ := vals1 r
  cases ru
  obtain ⟨mA, J, _⟩ := ins_get I.hok ha
  obtain ⟨od, J, _⟩ := J.look
  have sb1 : Sub X (n + 1) X.A.in1 := Sub.in1 ⟨hr, rfl⟩
  have sb : Sub X n X.A.in1.in1 := Sub.in1 sb1
  refine PySem.W.kso_call sb.room.units0 I.kIn J m.find m.fn (wpAny_mono (call_at (vs := [V.ref a]) F hb hx sb hgu I (.cons rfl .nil) h) (fun v s' z => ?_) fun _ _ y => y)
  obtain ⟨v, H', I', rv, y, rfl, q⟩ := z
  obtain ⟨t, rfl⟩ := rv
  exact ⟨.str y, H', I', ⟨t, rfl⟩, q⟩
/-- x == y, x != y by an own == -/
def rOwn (K : PySem.W.Frag) (C : Addr) (sp : Sp) (E : XK) (g : Bool → Bool) : R2 := fun x y H Q => ∃ a dx fs t, x = .ref a ∧ H a = some (.ins C dx fs) ∧ TyX K H y t ∧ PySem.W.notFirst K C t = true ∧ sp [x, y] H (fun v H' => ∃ k, v = .bl k ∧ Q (.bl (g k)) H') E
theorem op_eqI (F : FnG X.prog X.w X.K X.mg X.base CX n f fd ps sp) (m : OwnM X.K C "__eq__" f) (hb : Binds X.K fd ps []) (hx : Passes CX X E) (hgu : X.A.guards = some []) (hr : Room n X.A) :
    OpR X (compareOp .Eq) (rOwn X.K C sp E id) := by
  intro pins s σ H x y v u Q I rx ry hq
  obtain ⟨a, dx, fs, t, rfl, ha, ty, nf, h⟩ := hq
  obtain ⟨P, kit, hp, _⟩ := kit_of I ry ty
  obtain ⟨mA, J, _⟩ := ins_get I.hok ha
  obtain ⟨od, J, _⟩ := J.look
  obtain ⟨m', hF⟩ := I.fr
  have sb : Sub X n X.A := ⟨hr, rfl⟩
  have rx' := rx
  cases rx
  show wpAny (model X.prog X.w) X.A (richCompare .Eq (.ref a) u) (EP X pins σ Q) X.xe s
  refine PySem.W.cmp_K (op := .Eq) (tb := t) sb.room.units0 hF I.ok.mod.kin J (kit.ty _ _ I.kIn hp) nf m.find m.fn (wpAny_mono (call_at (vs := [V.ref a, y]) F hb hx sb hgu I (.cons rfl (.cons ry .nil)) h) (fun v s' z => ?_) fun _ _ y => y)
  obtain ⟨v, H', I', rv, k, rfl, q⟩ := z
  cases rv
  exact ⟨.bl k, H', I', rfl, q⟩
theorem op_neI (F : FnG X.prog X.w X.K X.mg X.base CX n f fd ps sp) (m : OwnM X.K C "__eq__" f) (hne : PySem.W.findIn X.K (.ref C) "__ne__" = some (some (.builtin "object.__ne__"))) (hm : PySem.W.mroIn X.K C (.type "object") = some true)
    (hb : Binds X.K fd ps []) (hx : Passes CX X E) (hgu : X.A.guards = some []) (hr : Room (n + 1) X.A) : OpR X (compareOp .NotEq) (rOwn X.K C sp E not) := by
  intro pins s σ H x y v u Q I rx ry hq
  obtain ⟨a, dx, fs, t, rfl, ha, ty, nf, h⟩ := hq
  obtain ⟨P, kit, hp, _⟩ := kit_of I ry ty
  obtain ⟨mA, J, _⟩ := ins_get I.hok ha
  obtain ⟨od, J, _⟩ := J.look
  obtain ⟨m', hF⟩ := I.fr
  have sb0 : Sub X (n + 1) X.A := ⟨hr, rfl⟩
  have sb : Sub X n X.A.in1 := Sub.in1 sb0
  cases rx
  show wpAny (model X.prog X.w) X.A (richCompare .NotEq (.ref a) u) (EP X pins σ Q) X.xe s
  refine PySem.W.own_ne (tb := t) sb0.room.units0 sb.room.units0 hF I.ok.mod.kin J (kit.ty _ _ I.kIn hp) nf m.find m.fn hne hm (wpAny_mono (call_at (vs := [V.ref a, y]) F hb hx sb hgu I (.cons rfl (.cons ry .nil)) h) (fun v s' z => ?_) fun _ _ y => y)
  obtain ⟨v, H', I', rv, k, rfl, q⟩ := z
  cases rv
  exact ⟨k, rfl, .bl (!k), H', I', rfl, q⟩
/-- {x!r} of a list, tuple or dict of data -/
def tFmtRD (K : PySem.W.Frag) (te : TE) : TE := fun σ H Q => te σ H fun x H1 => ∃ a d, x = .ref a ∧ Dd K H1 (.ref a) d ∧ d.showable = true ∧ d.depth ≤ 20 ∧ d.shown.length ≤ sizeLine ∧ Q (.str d.shown) H1
theorem pe_fmtRD {e : Expr} {te : TE} {pos : Pos} (hgu : X.A.guards = some []) (hu : X.A.units + 64 < cLine) (q : smOk X.K = true) (he : PE X e te) : PE X (.FormattedValue e 114 none pos) (tFmtRD X.K te) := by
  refine ⟨fun pins s σ H Q I h => ?_⟩
  refine wpAny_FormattedValue_repr (thn (he.run pins s σ H _ I h) fun v s1 hv => ?_)
  obtain ⟨x, H1, I1, r1, a, d, rfl, hd, hs, hz, hl, k⟩ := hv
  cases r1
  obtain ⟨as, hr, hn⟩ := Dd.reads I1 q hd rfl
  refine pyReprObj_of_reads hr hs (fun _ => hn) hgu (by omega) (fun _ _ e => e) (fun h' u tk hk => ?_) hl
  exact wpAny_formatField_str ⟨.str d.shown, H1, I1.kept (t' := tk) hk, ⟨u, rfl⟩, k⟩ ⟨.str d.shown, H1, (I1.kept (t' := tk) hk).tok _, ⟨_, rfl⟩, k⟩ hl
end
end L2

/-! The head's facts with defs that are found by a path of one's own (a property's getter). -/
namespace He
open PySem PySem.Spec PyProof.Rows L2
structure DefP where
  path : PySem.W.Frag → Addr
  name : Str
  qual : Str
  params : Arguments
  body : List Stmt
  scope : Scope
def fnAt (K : PySem.W.Frag) (a : Addr) : FnW := match K.lookup a with
  | some ⟨_, _, .func z, _⟩ => some (z.name, z.qualname, z.params, z.body, z.scope, z.globals, z.closure, z.builtins)
  | _ => none
def DefP.val (d : DefP) : FnW := some (d.name, d.qual, d.params, .stmts d.body, d.scope, mainGlobals, [], builtinsNs)
def DefP.ok (K : PySem.W.Frag) (d : DefP) : Bool := PySem.W.keepIn K (.ref (d.path K)) && (match K.lookup (d.path K) with
  | some ⟨_, _, .func z, _⟩ => PySem.W.codeIn K z.code d.qual && (dflB K z.defaults [] && kwdB K z.kwdefaults [])
  | _ => false)
theorem DefP.funD {K : PySem.W.Frag} {d : DefP} (e : fnAt K (d.path K) = d.val) (c : d.ok K = true) : ∃ fd, FunD K d.name d.qual d.params d.body d.scope [] [] (d.path K) fd := by
  obtain ⟨kp, c2⟩ := ba c
  unfold fnAt at e
  cases q : K.lookup (d.path K) with
  | none =>
    rw [q] at c2
    cases c2
  | some o =>
    obtain ⟨oc, od, dt, osl⟩ := o
    rw [q] at c2 e
    cases dt with
    | func z =>
      obtain ⟨a1, a2, a3, a4, a5, a6, a7, a8, a9, a10, a11, a12, a13, a14, a15⟩ := z
      have e2 : (some (a1, a2, a3, a4, a5, a6, a7, a15) : FnW) = some (d.name, d.qual, d.params, .stmts d.body, d.scope, mainGlobals, [], builtinsNs) := e
      simp only [Option.some.injEq, Prod.mk.injEq] at e2
      obtain ⟨g1, g2, g3, g4, g5, g6, g7, g8⟩ := e2
      subst g1 g2 g3 g4 g5 g6 g7 g8
      obtain ⟨k1, k2⟩ := ba (show (PySem.W.codeIn K a13 d.qual && (dflB K a8 [] && kwdB K a9 [])) = true from c2)
      obtain ⟨k3, k4⟩ := ba k2
      exact ⟨_, ⟨oc, od, a8, a9, a10, a11, a12, a13, a14, osl, rfl, q, k1, dflB_ok k3, kwdB_ok k4⟩, kp⟩
    | _ => cases c2
abbrev AlY : Type := Bool × AlD × List FnW
def obsY (xf : PySem.W.Frag → Bool) (fa : List Fa) (fn : List DefD) (fp : List DefP) (K : PySem.W.Frag) : AlY := (xf K && fp.all fun d => d.ok K, obsD fa fn K, fp.map fun d => fnAt K (d.path K))
def obsYG (n : Nat) (xf : PySem.W.Frag → Bool) (fa : List Fa) (fn : List DefD) (fp : List DefP) (g : Addr → Option Obj) : AlY := obsY xf fa fn fp (frG g (sysModules :: asD g n))
structure SaysY (xf : PySem.W.Frag → Bool) (fa : List Fa) (fn : List DefD) (fp : List DefP) (K : PySem.W.Frag) : Prop where
  x : xf K = true
  p : ∀ d ∈ fp, d.ok K = true
  d : SaysD fa fn K
  v : fp.map (fun d => fnAt K (d.path K)) = fp.map DefP.val
theorem SaysY.def_ {xf : PySem.W.Frag → Bool} {fa : List Fa} {fn : List DefD} {fp : List DefP} {K : PySem.W.Frag} (c : SaysY xf fa fn fp K) (i : Nat) {d : DefP} (h : fp[i]? = some d := by rfl) : ∃ fd, FunD K d.name d.qual d.params d.body d.scope [] [] (d.path K) fd := by
  have e2 : (fp.map fun d => fnAt K (d.path K))[i]? = (fp.map DefP.val)[i]? := by rw [c.v]
  rw [List.getElem?_map, List.getElem?_map, h] at e2
  exact DefP.funD (Option.some.inj e2) (c.p d (List.mem_of_getElem? h))
def hookY (n : Nat) (xf : PySem.W.Frag → Bool) (fa : List Fa) (fn : List DefD) (fp : List DefP) : PySem.W.Hook where
  α := AlY
  obs := fun s => obsYG n xf fa fn fp s.heap.get?
  val := fun _ => (true, valD fn, fp.map DefP.val)
  says := fun _ h => ∃ K : PySem.W.Frag, K.In h ∧ SaysY xf fa fn fp K
  of := fun _ _ e => by
    have e1 := ba (congrArg (fun z : AlY => z.1) e)
    exact ⟨_, frG_in, e1.1, fun d hd => List.all_eq_true.mp e1.2 d hd, congrArg (fun z : AlY => z.2.1) e, congrArg (fun z : AlY => z.2.2) e⟩
  keeps := fun _ _ _ y k => y.imp fun _ z => ⟨PySem.W.Frag.In.keeps z.1 k, z.2⟩
theorem obsYG_eq {n : Nat} {xf : PySem.W.Frag → Bool} {fa : List Fa} {fn : List DefD} {fp : List DefP} {g : Addr → Option Obj} {s : Shared} (h : ∀ a, g a = s.heap.get? a) : obsYG n xf fa fn fp g = (hookY n xf fa fn fp).obs s := by
  obtain rfl : g = s.heap.get? := funext h
  rfl
end He

/-! enumerate over a tuple: the walk, and a for over it. -/
namespace EnT
open PySem PySem.Spec PyProof.Rows
open AutoSeq1 (wpAny_loadPart')
section
variable {P : Program} {w : World} {A : Around} {E : Value → Shared → Prop} {s : Shared} {e j t : Addr} {n : Nat} {xs : Array Value} {x y : Value}
theorem next_in {Q : Value → Shared → Prop} (hj : s.heap.IsTupleIter j t n) (ht : s.heap.IsTuple t xs) (at_ : xs[n]? = some x) (q : ∀ g, g.IsTupleIter j t (n + 1) → Heap.SameBut j s.heap g → Q x { s with heap := g }) :
    wpAny (model P w) A (Builtin.SmallTypes.nextOf (.ref j)) Q E s := by
  obtain ⟨oj, ej, cj, dj⟩ := id hj
  obtain ⟨ot, et, _, m, dt⟩ := ht
  unfold Builtin.SmallTypes.nextOf
  refine wpAny_bind (wpAny_callSpecial?_slot (name := Str.ofString "__next__") hj.typeIs PySem.F.slot_tuple_iterator_next (wpAny_call_entry PySem.F.slot_tuple_iterator_next hj.typeIs PySem.F.entry_tuple_iterator_next ?_ (PySem.F.args_tuple_iterator_next_1 _)))
  show wpAny _ _ (field (.ref j) 0 >>= _) _ _ s
  refine wpAny_bind (wpAny_field ej dj (x := .ref t) rfl ?_)
  show wpAny _ _ (ite ((Value.ref t == Value.none) = true) _ _) _ _ s
  rw [if_neg (show ¬ ((Value.ref t == Value.none) = true) by intro z; cases z)]
  show wpAny _ _ (field (.ref j) 1 >>= _) _ _ s
  refine wpAny_bind (wpAny_field ej dj (x := .int n 0) rfl ?_)
  show wpAny _ _ (seqItems? (Value.ref t) >>= _) _ _ s
  refine wpAny_bind (wpAny_seqItems et dt ?_)
  simp only [Int.toNat_natCast, at_]
  refine wpAny_bind (wpAny_setField ej dj (by simp) (wpAny_pure ⟨x, rfl, wpAny_pure (q _ ⟨_, Heap.get?_update_self _ ej (Obj.isFreed_of_fields (Obj.data_mapFields dj _)), (Obj.cls_mapFields ..).trans cj, ?_⟩ (Heap.SameBut.update ..))⟩))
  rw [Obj.data_mapFields dj]
  simp [rawInt]
theorem next_out {Q : Value → Shared → Prop} (calm : A.handled = none) (hj : s.heap.IsTupleIter j t n) (ht : s.heap.IsTuple t xs) (at_ : xs[n]? = none)
    (q : ∀ g b, Heap.ExtBut j s.heap g → (∃ o, g.get? b = some o ∧ o.cls = .type "StopIteration") → E (.ref b) { s with heap := g }) : wpAny (model P w) A (Builtin.SmallTypes.nextOf (.ref j)) Q E s := by
  obtain ⟨oj, ej, cj, dj⟩ := id hj
  obtain ⟨ot, et, _, m, dt⟩ := ht
  unfold Builtin.SmallTypes.nextOf
  refine wpAny_bind (wpAny_callSpecial?_slot (name := Str.ofString "__next__") hj.typeIs PySem.F.slot_tuple_iterator_next (wpAny_call_entry PySem.F.slot_tuple_iterator_next hj.typeIs PySem.F.entry_tuple_iterator_next ?_ (PySem.F.args_tuple_iterator_next_1 _)))
  show wpAny _ _ (field (.ref j) 0 >>= _) _ _ s
  refine wpAny_bind (wpAny_field ej dj (x := .ref t) rfl ?_)
  show wpAny _ _ (ite ((Value.ref t == Value.none) = true) _ _) _ _ s
  rw [if_neg (show ¬ ((Value.ref t == Value.none) = true) by intro z; cases z)]
  show wpAny _ _ (field (.ref j) 1 >>= _) _ _ s
  refine wpAny_bind (wpAny_field ej dj (x := .int n 0) rfl ?_)
  show wpAny _ _ (seqItems? (Value.ref t) >>= _) _ _ s
  refine wpAny_bind (wpAny_seqItems et dt ?_)
  simp only [Int.toNat_natCast, at_]
  refine wpAny_bind (wpAny_rule (wpAny_bind (wpAny_setField ej dj (by simp) ?_)))
  show wpAny _ _ (newExc (Value.type "StopIteration") [] >>= _) _ _ _
  refine wpAny_bind ?_
  simp only [newExc, newTuple]
  refine wpAny_bind (wpAny_newObj_type ?_ (by first | size_fits | decide))
  refine wpAny_bind (m := firstArgMember _ _) (wpAny_of_eq (a := Value.none) (by first | rfl | (simp only [firstArgMember]; rfl) | skip) ?_)
  refine wpAny_newObj_type ?_ (by first | size_fits | decide)
  simp only [raiseNew]
  refine wpAny_bind (wpAny_handled ?_)
  first | rw [show A.in1.handled = none from calm] | rw [calm]
  refine wpAny_bind (wpAny_pure (wpAny_throw (q _ _ (((Heap.SameBut.update ..).extBut.push _).push _) ⟨_, Heap.get?_push_size _ rfl, rfl⟩)))
/-- the enumerator at e over the iterator at j over the tuple at t, before item n -/
structure On (h : Heap) (e j t : Addr) (n : Nat) (y : Value) : Prop where
  en : IsEnum h e j n y
  it : h.IsTupleIter j t n
  ne : e ≠ j
theorem item {Q : Option Value → Shared → Prop} (o : On s.heap e j t n y) (ht : s.heap.IsTuple t xs) (at_ : xs[n]? = some x)
    (q : ∀ g, IsEnumOut g e j ((n : Int) + 1) x s.heap.objs.size → g.IsTupleIter j t (n + 1) → g.get? s.heap.objs.size = some { cls := .type "tuple", data := .seq #[.int n s.toks, x] } → g.objs.size = s.heap.objs.size + 1 →
      (∀ b ob, b ≠ e → b ≠ j → s.heap.get? b = some ob → g.get? b = some ob) → Q (some (.ref s.heap.objs.size)) { s with heap := g, toks := s.toks + 1 }) : wpAny (model P w) A (pyNext (.ref e)) Q E s := by
  obtain ⟨he, hj, ne⟩ := o
  have ty : s.TypeIs (.ref e) "enumerate" := ⟨_, he, rfl⟩
  unfold pyNext
  refine wpAny_bind (wpAny_attempt (wpAny_callSpecial?_slot (name := Str.ofString "__next__") ty PySem.F.slot_enumerate_next (wpAny_call_entry PySem.F.slot_enumerate_next ty PySem.F.entry_enumerate_next ?_ (PySem.F.args_enumerate_next_1 _))))
  obtain ⟨hp, gs, dr, tk, os⟩ := s
  show wpAny _ _ (field (.ref e) 2 >>= _) _ _ (Shared.mk hp gs dr tk os)
  refine wpAny_bind (wpAny_field he rfl (x := .ref j) rfl ?_)
  refine wpAny_bind (next_in hj ht at_ fun h₁ j₁ b₁ => ?_)
  have b₁ : Heap.SameBut j hp h₁ := b₁
  have e₁ : IsEnum h₁ e j n y := (b₁.2 e ne).trans he
  show wpAny _ _ (field (.ref e) 3 >>= _) _ _ (Shared.mk h₁ gs dr tk os)
  refine wpAny_bind (wpAny_field e₁ rfl (x := rawInt n) rfl ?_)
  show wpAny _ _ (field (.ref e) 4 >>= _) _ _ (Shared.mk h₁ gs dr tk os)
  refine wpAny_bind (wpAny_field e₁ rfl (x := .none) rfl ?_)
  show wpAny _ _ (mkInt n >>= _) _ _ (Shared.mk h₁ gs dr tk os)
  refine wpAny_bind (wpAny_mkInt ?_)
  show wpAny _ _ (setField (.ref e) 3 (rawInt ((n : Int) + 1)) >>= _) _ _ (Shared.mk h₁ gs dr (tk + 1) os)
  refine wpAny_bind (wpAny_setField_rec e₁ (by simp) fun h₂ e₂ b₂ => ?_)
  have b₂ : Heap.SameBut e h₁ h₂ := b₂
  have e₂ : IsEnum h₂ e j ((n : Int) + 1) y := e₂
  show wpAny _ _ (setField (.ref e) 4 .none >>= _) _ _ (Shared.mk h₂ gs dr (tk + 1) os)
  refine wpAny_bind (wpAny_setField_rec e₂ (by simp) fun h₃ e₃ b₃ => ?_)
  have b₃ : Heap.SameBut e h₂ h₃ := b₃
  have e₃ : IsEnum h₃ e j ((n : Int) + 1) y := e₃
  show wpAny _ _ (newTuple [.int n tk, x] >>= _) _ _ (Shared.mk h₃ gs dr (tk + 1) os)
  refine wpAny_bind (wpAny_newTuple ?_)
  have e₄ : IsEnum (h₃.push { cls := .type "tuple", data := .seq #[.int n tk, x] }) e j ((n : Int) + 1) y := Heap.get?_push_of_some _ e₃
  generalize eq : h₃.push { cls := .type "tuple", data := .seq #[.int n tk, x] } = h₄ at e₄
  have z₃ : h₃.objs.size = hp.objs.size := by rw [b₃.1, b₂.1, b₁.1]
  have lt : e < hp.objs.size := Heap.lt_size he
  have t₄ : h₄.get? hp.objs.size = some { cls := .type "tuple", data := .seq #[.int n tk, x] } := by
    rw [← eq, ← z₃]
    exact Heap.get?_push_size _ rfl
  have z₄ : h₄.objs.size = hp.objs.size + 1 := by rw [← eq, Heap.size_push, z₃]
  have k₄ : ∀ b ob, b ≠ e → b ≠ j → hp.get? b = some ob → h₄.get? b = some ob := fun b ob be bj hb => by
    rw [← eq]
    exact Heap.get?_push_of_some _ (b₃.extBut b ob be (b₂.extBut b ob be (b₁.extBut b ob bj hb)))
  have j₄ : h₄.IsTupleIter j t (n + 1) := by
    obtain ⟨ob, eo, r⟩ := (j₁.extBut b₂.extBut (Ne.symm ne)).extBut b₃.extBut (Ne.symm ne)
    rw [← eq]
    exact ⟨ob, Heap.get?_push_of_some _ eo, r⟩
  show wpAny _ _ (Builtin.SmallTypes.ownedTupleIsFree (.ref e) >>= _) _ _ (Shared.mk h₄ gs dr (tk + 1) os)
  rw [z₃]
  refine wpAny_bind ?_
  unfold Builtin.SmallTypes.ownedTupleIsFree
  refine wpAny_bind (wpAny_field e₄ rfl (x := .none) rfl (wpAny_pure ?_))
  simp only [if_true]
  refine wpAny_bind (wpAny_rule ?_)
  refine wpAny_bind (wpAny_field e₄ rfl (x := y) rfl ?_)
  refine wpAny_bind (wpAny_setField_rec e₄ (by simp) fun h₅ e₅ b₅ => ?_)
  have b₅ : Heap.SameBut e h₄ h₅ := b₅
  have e₅ : IsEnum h₅ e j ((n : Int) + 1) x := e₅
  show wpAny _ _ (Builtin.SmallTypes.ownedTupleHandOut (.ref e) (.ref hp.objs.size) >>= _) _ _ (Shared.mk h₅ gs dr (tk + 1) os)
  refine wpAny_bind ?_
  unfold Builtin.SmallTypes.ownedTupleHandOut
  refine wpAny_bind (wpAny_setField_rec e₅ (by simp) fun h₆ e₆ b₆ => ?_)
  have b₆ : Heap.SameBut e h₅ h₆ := b₆
  have e₆ : IsEnumOut h₆ e j ((n : Int) + 1) x hp.objs.size := e₆
  refine wpAny_setField_rec e₆ (by simp) fun h₇ e₇ b₇ => ?_
  have b₇ : Heap.SameBut e h₆ h₇ := b₇
  have e₇ : IsEnumOut h₇ e j ((n : Int) + 1) x hp.objs.size := e₇
  have far := Nat.ne_of_gt lt
  refine wpAny_bind (wpAny_letGo (wpAny_pure ⟨_, rfl, wpAny_pure (q h₇ e₇ (((j₄.extBut b₅.extBut (Ne.symm ne)).extBut b₆.extBut (Ne.symm ne)).extBut b₇.extBut (Ne.symm ne)) ?_ ?_ fun b ob be bj hb => ?_)⟩))
  · exact b₇.extBut _ _ far (b₆.extBut _ _ far (b₅.extBut _ _ far t₄))
  · rw [b₇.1, b₆.1, b₅.1, z₄]
  · exact b₇.extBut b ob be (b₆.extBut b ob be (b₅.extBut b ob be (k₄ b ob be bj hb)))
theorem ends {Q : Option Value → Shared → Prop} (calm : A.handled = none) (o : On s.heap e j t n y) (ht : s.heap.IsTuple t xs) (at_ : xs[n]? = none)
    (q : ∀ g, Heap.ExtBut j s.heap g → Q none { s with heap := g }) : wpAny (model P w) A (pyNext (.ref e)) Q E s := by
  obtain ⟨he, hj, ne⟩ := o
  have ty : s.TypeIs (.ref e) "enumerate" := ⟨_, he, rfl⟩
  unfold pyNext
  refine wpAny_bind (wpAny_attempt (wpAny_callSpecial?_slot (name := Str.ofString "__next__") ty PySem.F.slot_enumerate_next (wpAny_call_entry PySem.F.slot_enumerate_next ty PySem.F.entry_enumerate_next ?_ (PySem.F.args_enumerate_next_1 _))))
  show wpAny _ _ (field (.ref e) 2 >>= _) _ _ s
  refine wpAny_bind (wpAny_field he rfl (x := .ref j) rfl ?_)
  refine wpAny_bind (next_out calm hj ht at_ fun g b x1 x2 => ?_)
  obtain ⟨ob, eb, cb⟩ := x2
  exact wpAny_bind (wpAny_isInstance (T := "StopIteration") (b := true) ⟨ob, eb, cb⟩ isSubtype_stop (wpAny_pure (q _ x1)))
theorem meets_new (t : Addr) (xs : Array Value) (m : Nat) (dd : Option Addr) (sl : Array (Option Value)) :
    Meets (Builtin.«enumerate.__new__» ⟨[.type "enumerate", .ref t], []⟩) (fun _ R s => s.heap.get? t = some { cls := .type "tuple", dict := dd, data := .seq xs m, slots := sl } ∧
      R (.ok (.ret (.ref (s.heap.push { cls := .type "tuple_iterator", data := .fields #[.ref t, .int 0 0] }).objs.size)))
        { s with heap := (s.heap.push { cls := .type "tuple_iterator", data := .fields #[.ref t, .int 0 0] }).push { cls := .type "enumerate", data := .fields #[.none, .bool false, .ref s.heap.objs.size, rawInt 0, .none, .none] } }) :=
  .of_wp fun prog w A R s hh => by
    obtain ⟨hp, gs, dr, tk, os⟩ := s
    obtain ⟨ht, hh⟩ := hh
    have sb := sub_enumerate
    have hT : Heap.IsTuple (Shared.heap ⟨hp, gs, dr, tk, os⟩) t xs := ⟨_, ht, rfl, m, rfl⟩
    wp_walk using wpAny_loadPart' ht
    refine wpAny_stack_any fun st => wpAny_pure ?_
    split
    · rename_i c _ _ _ _ _
      cases (c == Value.type "enumerate")
      · wp_walk using wpAny_loadPart' ht, wpAny_pyIter_tuple hT
        exact ⟨_, rfl, hh⟩
      · wp_walk using wpAny_loadPart' ht, wpAny_pyIter_tuple hT
        exact ⟨_, rfl, hh⟩
    · wp_walk using wpAny_loadPart' ht, wpAny_pyIter_tuple hT
      exact ⟨_, rfl, hh⟩
theorem made {Q : Value → Shared → Prop} (ht : s.heap.IsTuple t xs)
    (q : ∀ g, On g (s.heap.objs.size + 1) s.heap.objs.size t 0 .none → g.objs.size = s.heap.objs.size + 2 → (∀ b o, s.heap.get? b = some o → g.get? b = some o) → Q (.ref (s.heap.objs.size + 1)) { s with heap := g }) :
    wpAny (model P w) A (call (.type "enumerate") [.ref t]) Q E s := by
  obtain ⟨⟨c, dd, dt, sl⟩, et, hc, m, hd⟩ := ht
  obtain rfl : c = .type "tuple" := hc
  obtain rfl : dt = .seq xs m := hd
  refine callType_new PySem.F.called_enumerate (by decide) (PySem.F.typeCall_enumerate_1 _) (PySem.F.newCall_enumerate_1 _) (fun obj => PySem.F.args_object_init_2 obj _) PySem.F.entry_enumerate_new (meets_new t xs m dd sl) ⟨et, ?_⟩
  have z : (s.heap.push { cls := .type "tuple_iterator", data := .fields #[.ref t, .int 0 0] }).objs.size = s.heap.objs.size + 1 := Heap.size_push ..
  show _ ∧ _
  rw [z]
  have en := Heap.get?_push_size (s.heap.push { cls := .type "tuple_iterator", data := .fields #[.ref t, .int 0 0] }) (o := { cls := .type "enumerate", data := .fields #[.none, .bool false, .ref s.heap.objs.size, rawInt 0, .none, .none] }) rfl
  rw [z] at en
  exact ⟨⟨_, en, rfl⟩, q _ ⟨en, ⟨_, Heap.get?_push_of_some _ (Heap.get?_push_size _ rfl), rfl, rfl⟩, Nat.succ_ne_self _⟩ (by rw [Heap.size_push, z]) fun b o y => Heap.get?_push_of_some _ (Heap.get?_push_of_some _ y)⟩
end
end EnT
namespace L2
open PySem PySem.Spec PyProof.Rows
/-- the tuple at a, each item in a new pair with its number -/
def Itet (K : PySem.W.Frag) (a : Addr) : It :=
  ⟨fun i H => ∃ (xs : List V) (x : V), SqT K H a xs ∧ xs[i]? = some x, fun i H v H' => ∃ T x, v = .ref T ∧ H T = none ∧ H' = upd H T (.tup [.int (i : Nat), x]) ∧ ∀ xs, SqT K H a xs → xs[i]? = some x, fun i H => ∃ xs : List V, SqT K H a xs ∧ xs.length ≤ i⟩
theorem turn_enumT {P : Program} {w : World} {K : PySem.W.Frag} {elts : List Expr} {kk : Nat} {tpos : Pos} (a e j : Addr) :
    Turn P w K (.Tuple elts kk tpos) (Itet K a) [e, j] e (fun i h => ∃ old, EnT.On h e j a i old) where
  mem := List.mem_cons_self
  obj := fun i h st b hb => by
    obtain ⟨old, he, ⟨o, ho, hc, hd⟩, _⟩ := st
    rcases List.mem_cons.mp hb with rfl | hb
    · exact ⟨_, he, fun v q => nomatch q⟩
    · obtain rfl := List.mem_singleton.mp hb
      exact ⟨o, ho, fun v q => by
        rw [hd] at q
        cases q⟩
  keep := fun i h h' st k => by
    obtain ⟨old, he, ⟨o, ho, r⟩, ne⟩ := st
    exact ⟨old, k e List.mem_cons_self _ he, ⟨o, k j (List.mem_cons_of_mem _ List.mem_cons_self) _ ho, r⟩, ne⟩
  item := by
    intro X hP hw hK hc i pins s σ H E I hf st hg
    subst hP hw hK
    obtain ⟨old, on⟩ := st
    obtain ⟨xs, x, hq, hx⟩ := hg
    obtain ⟨its, rv, p, hz⟩ := I.tuple hq
    obtain ⟨u, hu, ru⟩ := rv.get hx
    have el : e < s.heap.objs.size := Heap.lt_size on.en
    have jl : j < s.heap.objs.size := by
      obtain ⟨_, q, _⟩ := on.it
      exact Heap.lt_size q
    refine EnT.item on p (x := u) (by simpa using hu) fun g ho hj hT hsz hk => ?_
    refine ⟨_, rfl, wpAny_letOwnedTupleGo_enum (s := { s with heap := g, toks := s.toks + 1 }) ho fun g2 he' sb => ?_⟩
    have hT2 : g2.get? s.heap.objs.size = some { cls := .type "tuple", data := .seq #[.int i s.toks, u] } := (sb.2 _ (Nat.ne_of_gt el)).trans hT
    have new : ObjOk X.prog X.w (upd H s.heap.objs.size (.tup [.int (i : Nat), x])) g2 s.heap.objs.size (.tup [.int (i : Nat), x]) :=
      ⟨by show 2 ≤ sizeLine; decide, [.int i s.toks, u], .cons ⟨_, rfl⟩ (.cons ru .nil), ⟨_, hT2, rfl, _, rfl⟩⟩
    have keep : ∀ b ob, b ∉ [e, j] → s.heap.get? b = some ob → g2.get? b = some ob := fun b ob hb q =>
      (sb.2 b fun z => hb (by rw [z]; exact List.mem_cons_self)).trans (hk b ob (fun z => hb (by rw [z]; exact List.mem_cons_self)) (fun z => hb (by rw [z]; exact List.mem_cons_of_mem _ List.mem_cons_self)) q)
    have I1 : Inv X pins σ (upd H s.heap.objs.size (.tup [.int (i : Nat), x])) { s with heap := g2, toks := s.toks + 1 } := I.turnedNew (ch := [e, j]) keep hf (Nat.le_refl _) new
    obtain ⟨o, eo, r⟩ := hj
    refine ⟨.ref s.heap.objs.size, _, I1, rfl, ⟨_, x, rfl, I.hok.fresh (Nat.le_refl _), rfl, fun ys hy => by rw [I.tuple_inj hy hq]; exact hx⟩, ⟨u, ?_, ⟨o, (sb.2 j (Ne.symm on.ne)).trans eo, r⟩, on.ne⟩, fun b hb => ?_⟩
    · rw [show ((i + 1 : Nat) : Int) = (i : Int) + 1 by omega]
      exact he'
    · have hb' : b < s.heap.objs.size := by
        rcases List.mem_cons.mp hb with rfl | hb
        · exact el
        · rw [List.mem_singleton.mp hb]
          exact jl
      rw [upd_ne (Nat.ne_of_lt hb')]
      exact (hf b hb).1
  done := by
    intro X hP hw hK hc i pins s σ H E I hf st hg
    subst hP hw hK
    obtain ⟨old, on⟩ := st
    obtain ⟨xs, hq, hx⟩ := hg
    obtain ⟨its, rv, p, hz⟩ := I.tuple hq
    obtain ⟨f0, f1, f2, f3, f4, f5⟩ := hf j (List.mem_cons_of_mem _ List.mem_cons_self)
    have hl := rv.length
    exact EnT.ends (I.ok.hd hc) on p (by simp; omega) fun g eb => ⟨rfl, I.turned (t' := s.toks) (fun b o hb q => eb b o hb q) f0 f1 f3 f4 f5⟩
  self := fun A i s Q E st h => let ⟨_, on⟩ := st; wpAny_pyIter_enum on.en h
def iEnumT (K : PySem.W.Frag) (ta : TA) : TI := fun σ H R => ta σ H fun vs H1 => ∃ a xs, vs = [.ref a] ∧ SqT K H1 a xs ∧ R (Itet K a) H1
theorem pi_enumT {X : Cx} {e : Expr} {ta : TA} {p pos tpos : Pos} {elts : List Expr} {kk : Nat} (hg : Gl X "enumerate") (hm : X.mg "enumerate" = none) (ha : PA X [e] ta) (hs : starEach [e] X.env = [(false, eval e X.env)] := by rfl) :
    PI X (.Tuple elts kk tpos) (.Call (.Name "enumerate" p) [e] [] pos) (iEnumT X.K ta) := by
  refine ⟨fun pins s σ H R I h => Call_ (ld_blt I hg hm boot_enumerate (PyProof.Rows.callWith_type1 (thn (ha.run pos pins s σ H _ I h) fun us s1 ⟨vs, H1, I1, r1, q1⟩ => ?_) hs rfl))⟩
  obtain ⟨a, xs, rfl, hq, q⟩ := q1
  obtain ⟨u, rfl, ru⟩ := vals1 r1
  cases ru
  obtain ⟨its, rv, pt, hz⟩ := I1.tuple hq
  refine EnT.made pt fun g on hsz hk => wpAny_pyIter_enum on.en ⟨s1.heap.objs.size + 1, [s1.heap.objs.size + 1, s1.heap.objs.size], _, _, H1, rfl, I1.kept (t' := s1.toks) hk, turn_enumT a (s1.heap.objs.size + 1) s1.heap.objs.size, ⟨_, on⟩, fun b hb => ?_, q⟩
  have le : s1.heap.objs.size ≤ b := by
    rcases List.mem_cons.mp hb with rfl | hb
    · exact Nat.le_succ _
    · rw [List.mem_singleton.mp hb]
      exact Nat.le_refl _
  exact I1.fpOk le (I1.hok.fresh le)
/-- the same over a list or a tuple -/
def iEnumA (K : PySem.W.Frag) (ta : TA) : TI := fun σ H R => ta σ H fun vs H1 => ∃ a xs, vs = [.ref a] ∧ ((SqL K H1 a xs ∧ R (Ite K a) H1) ∨ (SqT K H1 a xs ∧ R (Itet K a) H1))
theorem pi_enumA {X : Cx} {e : Expr} {ta : TA} {p pos tpos : Pos} {elts : List Expr} {kk : Nat} (hg : Gl X "enumerate") (hm : X.mg "enumerate" = none) (ha : PA X [e] ta) (hs : starEach [e] X.env = [(false, eval e X.env)] := by rfl) :
    PI X (.Tuple elts kk tpos) (.Call (.Name "enumerate" p) [e] [] pos) (iEnumA X.K ta) := by
  refine ⟨fun pins s σ H R I h => Call_ (ld_blt I hg hm boot_enumerate (PyProof.Rows.callWith_type1 (thn (ha.run pos pins s σ H _ I h) fun us s1 ⟨vs, H1, I1, r1, q1⟩ => ?_) hs rfl))⟩
  obtain ⟨a, xs, rfl, q1⟩ := q1
  obtain ⟨u, rfl, ru⟩ := vals1 r1
  cases ru
  have le : ∀ b, b ∈ [s1.heap.objs.size + 1, s1.heap.objs.size] → s1.heap.objs.size ≤ b := fun b hb => by
    rcases List.mem_cons.mp hb with rfl | hb
    · exact Nat.le_succ _
    · rw [List.mem_singleton.mp hb]
      exact Nat.le_refl _
  rcases q1 with ⟨hq, q⟩ | ⟨hq, q⟩
  · obtain ⟨its, rv, pt, hz⟩ := I1.list hq
    exact call_enumerate_list pt.isList fun g he hit hsz hk => wpAny_pyIter_enum he ⟨s1.heap.objs.size + 1, [s1.heap.objs.size + 1, s1.heap.objs.size], _, _, H1, rfl, I1.kept (t' := s1.toks) hk, turn_enum a (s1.heap.objs.size + 1) s1.heap.objs.size, ⟨⟨.none, he⟩, hit, Nat.succ_ne_self _⟩, fun b hb => I1.fpOk (le b hb) (I1.hok.fresh (le b hb)), q⟩
  · obtain ⟨its, rv, pt, hz⟩ := I1.tuple hq
    exact EnT.made pt fun g on hsz hk => wpAny_pyIter_enum on.en ⟨s1.heap.objs.size + 1, [s1.heap.objs.size + 1, s1.heap.objs.size], _, _, H1, rfl, I1.kept (t' := s1.toks) hk, turn_enumT a (s1.heap.objs.size + 1) s1.heap.objs.size, ⟨_, on⟩, fun b hb => I1.fpOk (le b hb) (I1.hok.fresh (le b hb)), q⟩
theorem walk_enumT {K : PySem.W.Frag} {a : Addr} {xs : List V} : Walk (Itet K a) xs.length (fun H => SqT K H a xs) (YPair (fun i => some (.int (i : Nat))) (fun i => xs[i]?)) where
  goes := fun i H hi h => ⟨xs, xs[i], h, List.getElem?_eq_getElem hi⟩
  stops := fun H h => ⟨xs, h, Nat.le_refl _⟩
  yields := fun i H x H' hi h y => by
    obtain ⟨T, z, rfl, n, rfl, e⟩ := y
    exact ⟨T, _, z, rfl, n, rfl, rfl, e xs h⟩
end L2

/-! Further readings, one construct at a time. -/
namespace L2
open PySem PySem.Spec PyProof.Rows
/-- what a for asks of its walk -/
def ForG (J : It) (g : TG) (tb : TS) (D : Ends) (σ : L2.St) (H1 : Hp) : Prop :=
  ∃ W : Nat → Nat → L2.St → Hp → Prop, (∃ m, W 0 m σ H1) ∧ ∀ i m σ H, W i m σ H → (J.stop i H ∧ D.nx σ H) ∨ (J.go i H ∧ ∃ N : L2.St → Hp → Prop, (∀ σ' H', N σ' H' → ∃ m', m' < m ∧ W (i + 1) m' σ' H') ∧
    ∀ x H', J.yld i H x H' → g x σ H' fun σ2 H2 => tb { nx := N, rt := D.rt, bk := D.nx, ct := N } σ2 H2)
/-- what a comprehension over a range asks -/
def LcJ (J : It) (i : Nat) (ii : List Nat) (te : TE) (σ : L2.St) (H1 : Hp) (Q : VK) : Prop :=
  ∀ D, H1 D = none → ∃ W : Nat → Nat → Hp → Prop, (∃ m, W 0 m (upd H1 D (.lst []))) ∧ ∀ k m H, W k m H →
      (J.stop k H ∧ Q (.ref D) H) ∨ (J.go k H ∧ ∃ Nx : Hp → Prop, (∀ H', Nx H' → ∃ m', m' < m ∧ W (k + 1) m' H') ∧ ∀ x H', J.yld k H x H' → gName i x (wipe σ ii) H' fun σ2 H2 => wipe σ2 ii = wipe σ ii ∧ tYes σ2 H2 fun b H3 =>
        if b = true then te σ2 H3 (fun y H4 => ∃ acc, H4 D = some (.lst acc) ∧ acc.length < sizeLine ∧ Nx (upd H4 D (.lst (acc ++ [y])))) else Nx H3)
theorem lcR1 {ta : TA} {te : TE} {i : Nat} {ii : List Nat} {σ : L2.St} {H : Hp} {Q : VK} (h : ta σ H fun vs H1 => ∃ j, vs = [.int j] ∧ -2 ^ 62 ≤ j ∧ j < 2 ^ 62 ∧ LcJ (Itr 0 j.toNat) i ii te σ H1 Q) : tLc (iRng1 ta) (gName i) tYes te ii σ H Q := h
theorem lcR2 {ta : TA} {te : TE} {i : Nat} {ii : List Nat} {σ : L2.St} {H : Hp} {Q : VK} (h : ta σ H fun vs H1 => ∃ a b, vs = [.int a, .int b] ∧ (-2 ^ 62 ≤ a ∧ a < 2 ^ 62 ∧ -2 ^ 62 ≤ b ∧ b < 2 ^ 62) ∧ LcJ (Itr a (b - a).toNat) i ii te σ H1 Q) : tLc (iRng2 ta) (gName i) tYes te ii σ H Q := h
/-- over a range, by what holds of the turn, of what is made so far, and of the heap -/
theorem lcGen {lo : Int} {n i : Nat} {ii : List Nat} {te : TE} {σ : L2.St} {H1 : Hp} {Q : VK} (J : Nat → List V → Hp → Prop) (hi : ii = [i]) (hl : n ≤ 100000) (j0 : J 0 [] H1)
    (st : ∀ k acc (H : Hp) D o, H1 D = none → J k acc H → J k acc (upd H D o))
    (ht : ∀ k acc (H2 : Hp) (Q' : VK), k < n → acc.length = k → J k acc H2 → (∀ v (H3 : Hp), (∀ b o, H1 b = none → H2 b = some o → H3 b = some o) → J (k + 1) (acc ++ [v]) H3 → Q' v H3) → te ((wipe σ [i]).set i (some (.int (lo + (k : Int))))) H2 Q')
    (q : ∀ D acc (H2 : Hp), H1 D = none → acc.length = n → J n acc H2 → H2 D = some (.lst acc) → Q (.ref D) H2) : LcJ (Itr lo n) i ii te σ H1 Q := by
  subst hi
  intro D hD
  refine lc_it walk_range (fun k H2 => ∃ acc : List V, acc.length = k ∧ J k acc H2 ∧ H2 D = some (.lst acc)) ⟨[], rfl, st 0 [] H1 D _ hD j0, upd_same⟩ (fun _ _ _ _ => trivial) (fun k x H H' hk p hy => ?_) fun H2 p => ?_
  · obtain ⟨rfl, rfl⟩ := hy
    obtain ⟨acc, al, j, c⟩ := p
    refine ⟨by show List.set (List.set (List.set σ i none) i _) i none = List.set σ i none; rw [List.set_set, List.set_set], iteT (B := ∃ acc : List V, acc.length = k + 1 ∧ J (k + 1) acc H' ∧ H' D = some (.lst acc)) ?_⟩
    refine ht k acc H' _ hk al j fun v H3 kp j3 => ⟨acc, kp D _ hD c, ?_, acc ++ [v], by rw [List.length_append, al]; rfl, st _ _ _ D _ hD j3, upd_same⟩
    rw [al]
    exact Nat.lt_of_lt_of_le (show k < 100001 by omega) (by decide)
  · obtain ⟨acc, al, j, c⟩ := p
    exact q D acc H2 hD al j c
end L2
namespace Rd
open PySem PySem.Spec PyProof.Rows L2
section
variable {σ : L2.St} {H : Hp} {i : Nat} {v x y : V} {ta tb tc te : TE} {t tr : TA} {r r' : R2} {Q : VK} {QA : List V → Hp → Prop} {QB : Bool → Hp → Prop} {D : Ends} {t1 t2 : TS} {tt uu : TT} {xs ys : List V} {K : PySem.W.Frag} {g : TG} {m : V → Option Int → Option Int → Hp → VK → Prop}
theorem andV (h : ta σ H fun x H1 => ∃ c, x = .bl c ∧ if c = true then tb σ H1 Q else Q (.bl false) H1) : tAndV ta tb σ H Q := h
theorem orV (h : ta σ H fun x H1 => ∃ c, x = .bl c ∧ if c = true then Q (.bl true) H1 else tb σ H1 Q) : tOrV ta tb σ H Q := h
theorem notV (h : ta σ H fun x H1 => ∃ c, x = .bl c ∧ Q (.bl (!c)) H1) : tNotV ta σ H Q := h
theorem andT (h : tt σ H fun c H1 => if c = true then uu σ H1 QB else QB false H1) : tAnd tt uu σ H QB := h
theorem orT (h : tt σ H fun c H1 => if c = true then QB true H1 else uu σ H1 QB) : tOr tt uu σ H QB := h
theorem chain (h : ta σ H fun x H1 => tb σ H1 fun y H2 => r x y H2 fun z H3 => ∃ k, z = .bl k ∧ (if k = true then tc σ H3 fun w' H4 => r' y w' H4 Q else Q (.bl false) H3)) : tChain r r' ta tb tc σ H Q := h
theorem isT {k : Bool} {A B : Prop} (e : k = true) (h : A) : ∃ c, V.bl k = .bl c ∧ if c = true then A else B := ⟨k, rfl, by rw [e]; exact iteT h⟩
theorem isF {k : Bool} {A B : Prop} (e : k = false) (h : B) : ∃ c, V.bl k = .bl c ∧ if c = true then A else B := ⟨k, rfl, by rw [e]; exact iteF h⟩
theorem forEA {D : Ends} (h : t σ H fun vs H1 => ∃ a xs, vs = [.ref a] ∧ ((SqL K H1 a xs ∧ ForG (Ite K a) g t1 D σ H1) ∨ (SqT K H1 a xs ∧ ForG (Itet K a) g t1 D σ H1))) : tFor (iEnumA K t) g t1 D σ H := h
theorem forR1 {D : Ends} (h : t σ H fun vs H1 => ∃ j, vs = [.int j] ∧ -2 ^ 62 ≤ j ∧ j < 2 ^ 62 ∧ ForG (Itr 0 j.toNat) g t1 D σ H1) : tFor (iRng1 t) g t1 D σ H := h
theorem forR2 {D : Ends} (h : t σ H fun vs H1 => ∃ i j, vs = [.int i, .int j] ∧ (-2 ^ 62 ≤ i ∧ i < 2 ^ 62 ∧ -2 ^ 62 ≤ j ∧ j < 2 ^ 62) ∧ ForG (Itr i (j - i).toNat) g t1 D σ H1) : tFor (iRng2 t) g t1 D σ H := h
theorem forL {D : Ends} (h : te σ H fun x H1 => ∃ a, x = .ref a ∧ (∃ xs, SqL K H1 a xs) ∧ ForG (Itl K a) g t1 D σ H1) : tFor (iList K te) g t1 D σ H := h
theorem forT {D : Ends} (h : te σ H fun x H1 => ∃ a, x = .ref a ∧ (∃ xs, SqT K H1 a xs) ∧ ForG (Itt K a) g t1 D σ H1) : tFor (iTup K te) g t1 D σ H := h
theorem meth {C : Addr} {mn : Str} {sp : Sp} {dvs : List V} {E : XK} (h : ta σ H fun x H1 => ∃ a dx fs, x = .ref a ∧ H1 a = some (.ins C dx fs) ∧ fs.lookup mn = none ∧ t σ H1 fun vs H2 => sp (x :: (vs ++ dvs)) H2 Q E) : tMeth C mn sp dvs E ta t σ H Q := h
theorem make {C : Addr} {sp : Sp} {dvs : List V} {E : XK} (h : t σ H fun vs H1 => ∀ x dx, H1 x = none → H1 dx = none → dx ≠ x → sp (.ref x :: (vs ++ dvs)) (upd (upd H1 dx (.own x)) x (.ins C dx [])) (fun v H2 => v = .non ∧ Q (.ref x) H2) E) : tMake C sp dvs E t σ H Q := h
theorem prop {C : Addr} {sp : Sp} {dvs : List V} {E : XK} (h : ta σ H fun x H1 => ∃ a dx fs, x = .ref a ∧ H1 a = some (.ins C dx fs) ∧ sp (.ref a :: dvs) H1 Q E) : tProp C sp dvs E ta σ H Q := h
theorem js {ts : List TE} {acc : Str} {QS : Str → Hp → Prop} (h : te σ H fun x H1 => ∃ y : Str, x = .str y ∧ (acc ++ y).length ≤ sizeLine ∧ tJs ts (acc ++ y) σ H1 QS) : tJs (te :: ts) acc σ H QS := h
theorem js0 {acc : Str} {QS : Str → Hp → Prop} (h : QS acc H) : tJs [] acc σ H QS := h
theorem par {j : Nat} {D : Ends} (h : t σ H fun vs H1 => ∃ v w, vs = [v, w] ∧ D.nx ((σ.set i (some v)).set j (some w)) H1) : tPar i j t D σ H := h
theorem star (h : te σ H fun x H1 => ∃ p xs, x = .ref p ∧ (SqT K H1 p xs ∨ SqL K H1 p xs) ∧ t σ H1 fun ys H2 => QA (xs ++ ys) H2) : StX.tStar K te t σ H QA := h
theorem m0 {rm : V → List V → Hp → VK → Prop} (h : te σ H fun x H1 => (∃ a, x = .str a) ∧ rm x [] H1 Q) : tM0 rm te σ H Q := h
theorem m1 {rm : V → List V → Hp → VK → Prop} (h : ta σ H fun x H1 => (∃ a, x = .str a) ∧ te σ H1 fun y H2 => rm x [y] H2 Q) : tM1 rm ta te σ H Q := h
theorem bm0 {T : String} {rm : V → List V → Hp → VK → Prop} (h : te σ H fun x H1 => tyV K T x H1 ∧ rm x [] H1 Q) : tBM0 K T rm te σ H Q := h
theorem bm {T : String} {rm : V → List V → Hp → VK → Prop} (h : te σ H fun x H1 => tyV K T x H1 ∧ t σ H1 fun xs H2 => rm x xs H2 Q) : tBM K T rm te t σ H Q := h
theorem sl {tl th : TO} (h : te σ H fun x H1 => tl σ H1 fun l H2 => th σ H2 fun u H3 => m x l u H3 Q) : L2.tSl m te tl th σ H Q := h
theorem part {QO : Option Int → Hp → Prop} (h : te σ H fun x H1 => ∃ i, x = .int i ∧ QO (some i) H1) : tPart te σ H QO := h
theorem part0 {QO : Option Int → Hp → Prop} (h : QO none H) : tNoPart σ H QO := h
theorem isI {i : Int} {QO : Int → Prop} (h : QO i) : ∃ j, V.int i = .int j ∧ QO j := ⟨i, rfl, h⟩
theorem fmt (h : te σ H fun x H1 => (∃ y : Str, x = .str y ∧ y.length ≤ sizeLine ∧ Q (.str y) H1) ∨ ∃ i : Int, x = .int i ∧ i.natAbs.log2 < 1920 ∧ Q (.str (toString i)) H1) : tFmt te σ H Q := h
theorem fmtRD (h : te σ H fun x H1 => ∃ a d, x = .ref a ∧ Dd K H1 (.ref a) d ∧ d.showable = true ∧ d.depth ≤ 20 ∧ d.shown.length ≤ sizeLine ∧ Q (.str d.shown) H1) : tFmtRD K te σ H Q := h
theorem fld {f : Str} (h : te σ H fun x H1 => ∃ a C dx fs v, x = .ref a ∧ H1 a = some (.ins C dx fs) ∧ Cls K C ∧ NoAttr K C f ∧ fs.lookup f = some v ∧ Q v H1) : tFld K te f σ H Q := h
theorem sfld {f : Str} {D : Ends} (h : tb σ H fun y H1 => ta σ H1 fun x H2 => ∃ a C dx fs, x = .ref a ∧ H2 a = some (.ins C dx fs) ∧ Cls K C ∧ NoAttr K C f ∧ fs.length < 1000 ∧ D.nx σ (upd H2 a (.ins C dx (putF f y fs)))) : sFld K ta tb f D σ H := h
theorem aug {ti : TIp} (h : ∃ x, σ[i]? = some (some x) ∧ te σ H fun y H1 => ti x y H1 fun z H2 => D.nx (σ.set i (some z)) H2) : tAug i te ti D σ H := h
theorem expr {D : Ends} (h : te σ H fun _ H1 => D.nx σ H1) : tDrop te D σ H := h
/-- isinstance of one written class -/
theorem isi {x : V} {a b : String} {k : Bool} (ty : TyX K H x (.type a)) (e : kitB a b = some k) (q : Q (.bl k) H) : rIsi K [x, .ty b] H Q := ⟨x, .ty b, .type a, .type b, k, rfl, .ty b, ty, kit_ty e, q⟩
theorem whl {D : Ends} (h : ∃ W : Nat → L2.St → Hp → Prop, (∃ m, W m σ H) ∧ ∀ m σ H, W m σ H → tt σ H fun b H1 => if b = true then ∃ N : L2.St → Hp → Prop, (∀ σ' H', N σ' H' → ∃ m', m' < m ∧ W m' σ' H') ∧ t1 { D with nx := N, ct := N, bk := D.nx } σ H1 else D.nx σ H1) : tWhile tt t1 D σ H := h
theorem ixT {p : Addr} {a : Int} (h : SqT K H p xs) (e : atI xs a = some v) (q : Q v H) : rIxT K (.ref p) (.int a) H Q := ⟨p, xs, a, v, rfl, rfl, h, e, q⟩
theorem at_neg {j : Nat} (h : j < xs.length) : atI xs (-1 - (j : Int)) = xs[xs.length - 1 - j]? := by
  unfold atI ixN
  rw [if_neg (by omega), if_pos (by omega)]
  show xs[_]? = _
  congr 1
  omega
theorem at_nat {j : Nat} (h : j < xs.length) : atI xs (j : Int) = xs[j]? := by
  unfold atI ixN
  rw [if_pos (by omega), if_pos (by omega)]
  show xs[_]? = _
  congr 1
theorem at_last (h : 0 < xs.length) : atI xs (-1) = xs[xs.length - 1]? := at_neg (j := 0) h
theorem ixL' {p : Addr} {a : Int} (h : SqL K H p xs) (e : atI xs a = some v) (q : Q v H) : rIxL K (.ref p) (.int a) H Q := ⟨p, xs, a, v, rfl, rfl, h, e, q⟩
/-! slices and sums of sequences, where only what is made is said -/
theorem cut_whole {lo hi : Option Int} (w : HT.sIx xs.length 0 lo = 0 ∧ HT.sIx xs.length xs.length hi = xs.length) : cutV xs lo hi = xs := by
  unfold cutV
  rw [w.1, w.2, List.drop_zero, Nat.sub_zero, List.take_length]
theorem cut_from {k : Nat} (h : k ≤ xs.length) : cutV xs (some (k : Int)) none = xs.drop k := by
  unfold cutV
  rw [HT.sIx_nat, HT.sIx_none, Nat.min_eq_left h, List.take_of_length_le (by rw [List.length_drop]; omega)]
theorem cut_to {k : Nat} : cutV xs none (some (k : Int)) = xs.take k := by
  unfold cutV
  rw [HT.sIx_nat, HT.sIx_none, List.drop_zero, Nat.sub_zero]
  by_cases h : k ≤ xs.length
  · rw [Nat.min_eq_left h]
  · rw [Nat.min_eq_right (by omega), List.take_length, List.take_of_length_le (by omega)]
theorem cut_last {k : Nat} (h : xs.length = k + 1) : cutV xs (some (-1)) none = xs.drop k := by
  unfold cutV
  have e : HT.sIx xs.length 0 (some (-1)) = k := by
    show (if (-1 : Int) < 0 then ((-1 : Int) + (xs.length : Int)).toNat else min (-1 : Int).toNat xs.length) = k
    rw [if_pos (by decide), h]
    omega
  rw [e, HT.sIx_none, List.take_of_length_le (by rw [List.length_drop]; omega)]
theorem cut_front {k : Nat} (h : xs.length = k + 1) : cutV xs none (some (-1)) = xs.take k := by
  unfold cutV
  have e : HT.sIx xs.length xs.length (some (-1)) = k := by
    show (if (-1 : Int) < 0 then ((-1 : Int) + (xs.length : Int)).toNat else min (-1 : Int).toNat xs.length) = k
    rw [if_pos (by decide), h]
    omega
  rw [e, HT.sIx_none, List.drop_zero, Nat.sub_zero]
theorem slA {a : Addr} {lo hi : Option Int} (h : SqT K H a xs) (q : ∀ (p : Addr) (H' : Hp), Same H H' → SqT K H' p (cutV xs lo hi) → Q (.ref p) H') : rSlA K (.ref a) lo hi H Q :=
  ⟨a, xs, rfl, h, fun w => q a H (Same.refl _) (by rw [cut_whole w]; exact h), fun _ p hp => q p _ (fun b u e => by rw [upd_ne (ne_of_none e hp)]; exact e) (SqT.of upd_same)⟩
theorem slL {a : Addr} {lo hi : Option Int} (h : SqL K H a xs) (q : ∀ (p : Addr) (H' : Hp), H p = none → Same H H' → H' p = some (.lst (cutV xs lo hi)) → Q (.ref p) H') : rSlL K (.ref a) lo hi H Q :=
  ⟨a, xs, rfl, h, fun p hp => q p _ hp (fun b u e => by rw [upd_ne (ne_of_none e hp)]; exact e) upd_same⟩
theorem catA {a b : Addr} (h1 : SqT K H a xs) (h2 : SqT K H b ys) (z : xs.length + ys.length ≤ 100000) (q : ∀ (p : Addr) (H' : Hp), Same H H' → SqT K H' p (xs ++ ys) → Q (.ref p) H') : rCatA K (.ref a) (.ref b) H Q :=
  ⟨a, b, xs, ys, rfl, rfl, h1, h2, small z, fun e => q b H (Same.refl _) (by rw [e, List.nil_append]; exact h2), fun _ e => q a H (Same.refl _) (by rw [e, List.append_nil]; exact h1),
    fun _ _ p hp => q p _ (fun b u e => by rw [upd_ne (ne_of_none e hp)]; exact e) (SqT.of upd_same)⟩
end
end Rd

/-! C.m(e, ..) where m is a plain def found on the class C; a written dict with text keys. -/
namespace L2
open PySem PySem.Spec PyProof.Rows
structure CFn (K : PySem.W.Frag) (C : Addr) (m : Str) (g : Addr) : Prop where
  rd : ClX.CRead K C (.type "type")
  at_ : PySem.W.findCls K (.ref C) (.type "type") m = some (.val (.ref g))
def tCFn (C : Addr) (sp : Sp) (E : XK) (ta : TE) (t : TA) : TE := fun σ H Q => ta σ H fun x H1 => x = .ref C ∧ t σ H1 fun vs H2 => sp vs H2 Q E
theorem Rd.cfn {C : Addr} {sp : Sp} {E : XK} {t : TA} {σ : St} {H : Hp} {Q : VK} (h : t σ H fun vs H2 => sp vs H2 Q E) : tCFn C sp E (tC (.ref C)) t σ H Q := ⟨rfl, h⟩
section
variable {X : Cx} {CX : CXT} {k : Nat} {C g : Addr} {fd : FuncData} {ps : List Str} {sp : Sp} {E : XK} {o e : Expr} {es : List Expr} {m : Str} {pos apos : Pos} {ta : TE} {t : TA} {pl : Sem Bool}
theorem pe_cfn (he : PE X o ta) (c : CFn X.K C m g) (F : FnOk X.prog X.w X.K X.mg X.base CX k g fd ps sp) (hr : Room k X.A) (hk : PySem.W.keepIn X.K (.ref g) = true) (hb : Binds X.K fd ps []) (hx : Passes CX X E) (ha : PA X (e :: es) t)
    (hst : starEach (e :: es) X.env = (false, eval e X.env) :: starEach es X.env := by rfl) (hpl : (backTo pos (starEach es X.env)).any (·.1) = false := by rfl)
    (ht : eval (.Call (.Attribute o m apos) (e :: es) [] pos) X.env = (do
      let ov ← eval o X.env
      standAt apos.atName
      let (f, first) ← holding [ov] (getMethod ov m pl)
      callWith pos f first (backTo pos (starEach (e :: es) X.env)) (backToKw pos (keywordEach [] X.env))) := by rfl) :
    PE X (.Call (.Attribute o m apos) (e :: es) [] pos) (tCFn C sp E ta t) := by
  refine ⟨fun pins s σ H Q I h => ?_⟩
  refine PySem.W.methodCall_KW (pl := pl) (thn (he.run pins s σ H _ I h) fun u s1 ⟨x, H1, I1, rx, ex, q⟩ => ?_) ht
  subst ex
  obtain rfl : u = Value.ref C := rx
  refine PySem.W.method_cls I1.kIn c.rd.ga (PySem.W.cls_value I1.kIn c.rd.rd c.at_ (handed_of (v := .ref g) rfl) ?_)
  refine PySem.W.callWith_K (first := []) (h₀ := X.base) I.ok.mod.kin hk (thn (ha.run pos pins _ σ H1 _ (I1.tok _) q) fun us s2 ⟨vs, H2, I2, r, q2⟩ => ⟨I2.kIn, ?_⟩) hst hpl
  exact run_fn (us := us) (vs := vs) F hr hb .nil hx I2 r (by rw [List.append_nil]; exact q2)
end
end L2

/-! The head's facts: a check of one's own, and the top's dicts with text keys; the addresses gathered with a set of bits. -/
namespace He
open PySem PySem.Spec PyProof.Rows L2
/-- those that are new, ahead of the others -/
def visitA : List Addr → Nat → List Addr → Nat × List Addr
  | [], seen, new => (seen, new)
  | a :: as, seen, new => match Nat.testBit seen a with
    | true => visitA as seen new
    | false => match Nat.lor seen (Nat.shiftLeft 1 a) with
      | 0 => visitA as 0 (a :: new)
      | n + 1 => visitA as (n + 1) (a :: new)
def asV (g : Addr → Option Obj) : Nat → Nat → List Addr → List Addr → List Addr
  | 0, _, _, all => all
  | n + 1, seen, new, all => match visitA (new.flatMap fun a => match g a with
      | some o => refsD o
      | none => []) seen [] with
    | (s, ns) => asV g n s ns (ns ++ all)
def as0 (n : Nat) (g : Addr → Option Obj) : List Addr := cStatics :: sysModules :: asV g n (Nat.shiftLeft 1 mainGlobals) [mainGlobals] [mainGlobals]
abbrev AlW : Type := Bool × AlD × List FnW × List (Option (List (Option (Str × Int))))
def obsW (xf : PySem.W.Frag → Bool) (fa : List Fa) (fn : List DefD) (fp : List DefP) (ts : List Tab) (K : PySem.W.Frag) : AlW := (xf K && fp.all fun d => d.ok K, obsD fa fn K, (fp.map fun d => fnAt K (d.path K)), ts.map fun t => dicW K (t.1 K))
def valW (fn : List DefD) (fp : List DefP) (ts : List Tab) (w : World) : AlW := (true, valD fn, fp.map DefP.val, ts.map fun t => some (keysIn w.params t.2))
def obsWG (n : Nat) (xf : PySem.W.Frag → Bool) (fa : List Fa) (fn : List DefD) (fp : List DefP) (ts : List Tab) (g : Addr → Option Obj) : AlW := obsW xf fa fn fp ts (frG g (as0 n g))
structure SaysW (xf : PySem.W.Frag → Bool) (fa : List Fa) (fn : List DefD) (fp : List DefP) (ts : List Tab) (w : World) (K : PySem.W.Frag) : Prop where
  x : xf K = true
  p : ∀ d ∈ fp, d.ok K = true
  d : SaysD fa fn K
  v : fp.map (fun d => fnAt K (d.path K)) = fp.map DefP.val
  t : (ts.map fun t => dicW K (t.1 K)) = ts.map fun t => some (keysIn w.params t.2)
def hookW (n : Nat) (xf : PySem.W.Frag → Bool) (fa : List Fa) (fn : List DefD) (fp : List DefP) (ts : List Tab) : PySem.W.Hook where
  α := AlW
  obs := fun s => obsWG n xf fa fn fp ts s.heap.get?
  val := fun w => valW fn fp ts w
  says := fun w h => ∃ K : PySem.W.Frag, K.In h ∧ SaysW xf fa fn fp ts w K
  of := fun _ _ e => by
    have e1 := ba (congrArg (fun z : AlW => z.1) e)
    exact ⟨_, frG_in, e1.1, fun d hd => List.all_eq_true.mp e1.2 d hd, congrArg (fun z : AlW => z.2.1) e, congrArg (fun z : AlW => z.2.2.1) e, congrArg (fun z : AlW => z.2.2.2) e⟩
  keeps := fun _ _ _ y k => y.imp fun _ z => ⟨PySem.W.Frag.In.keeps z.1 k, z.2⟩
theorem obsWG_eq {n : Nat} {xf : PySem.W.Frag → Bool} {fa : List Fa} {fn : List DefD} {fp : List DefP} {ts : List Tab} {g : Addr → Option Obj} {s : Shared} (h : ∀ a, g a = s.heap.get? a) : obsWG n xf fa fn fp ts g = (hookW n xf fa fn fp ts).obs s := by
  obtain rfl : g = s.heap.get? := funext h
  rfl
theorem comb {α β γ δ : Type} {o : Option α} {A : α → Bool} {B : α → β} {x : α → Bool} {d : α → γ} {e : α → δ} {a : Bool} {b : β} {v : γ} {z : δ} (h1 : o.map (fun s => (A s, B s)) = some (a, b)) (h2 : o.map x = some true) (h3 : o.map (fun s => (d s, e s)) = some (v, z)) : o.map (fun s => (A s, B s, (x s, d s, e s))) = some (a, b, (true, v, z)) := by
  cases o with
  | none => cases h1
  | some s =>
    have k1 : (A s, B s) = (a, b) := Option.some.inj h1
    have k2 : x s = true := Option.some.inj h2
    have k3 : (d s, e s) = (v, z) := Option.some.inj h3
    show some (A s, B s, (x s, d s, e s)) = _
    rw [k2, k3]
    cases k1
    rfl
/-- no such key in a dict of the top -/
theorem miss_of {K : PySem.W.Frag} {w : World} {a : Addr} {ks : List Str} (h : dicW K a = some (keysIn w.params ks)) {x : Str} (hx : x ∉ ks) : PySem.W.nsIn K a x = some none := by
  have key : ∀ {P : Params} {l : List DictEntry} {ks : List Str}, l.map keyOf = keysIn P ks → ∀ e ∈ l, ∃ k t, k ∈ ks ∧ e.key = .str k t := by
    intro P l
    induction l with
    | nil => intro ks _ e he; cases he
    | cons e r ih =>
      intro ks h
      cases ks with
      | nil => cases h
      | cons k ks =>
        have h1 : keyOf e :: r.map keyOf = some (k, PyData.keyHash P k) :: keysIn P ks := h
        injection h1 with h2 h3
        intro e' he
        rcases List.mem_cons.mp he with rfl | he
        · unfold keyOf at h2
          split at h2
          · rename_i y t q
            have h4 := Option.some.inj h2
            obtain ⟨h5, h6⟩ := Prod.mk.inj h4
            exact ⟨k, t, List.mem_cons_self, by rw [q, h5]⟩
          · cases h2
        · obtain ⟨k', t, hm, e1⟩ := ih h3 e' he
          exact ⟨k', t, List.mem_cons_of_mem _ hm, e1⟩
  have fin : ∀ l : List DictEntry, (∀ e ∈ l, ∃ k t, k ∈ ks ∧ e.key = .str k t) → (match l.find? (·.key.isStr x) with
      | some e => some (some e.val)
      | none => if l.any (·.refKey) then none else some none) = some none := by
    intro l hl
    have h1 : l.find? (·.key.isStr x) = none := List.find?_eq_none.mpr fun e he z => by
      obtain ⟨k, t, hk, ek⟩ := hl e he
      rw [ek] at z
      have z : (k == x) = true := z
      exact hx (beq_iff_eq.mp z ▸ hk)
    have h2 : l.any (·.refKey) = false := by
      rw [List.any_eq_false]
      intro e he
      obtain ⟨k, t, hk, ek⟩ := hl e he
      unfold DictEntry.refKey
      rw [ek]
      exact Bool.false_ne_true
    rw [h1, h2]
    rfl
  obtain ⟨es, n, D⟩ := dicW_ok (w := w) h
  have e := D.at_
  have h' : dicW K a = some (es.toList.map keyOf) := by
    unfold dicW at h ⊢
    rw [e] at h ⊢
    dsimp only at h ⊢
    split
    · rfl
    · rename_i z
      rw [z] at h
      cases h
  have h3 : es.toList.map keyOf = keysIn w.params ks := Option.some.inj (h'.symm.trans h)
  unfold PySem.W.nsIn
  rw [e]
  exact fin _ (key h3)
theorem SaysW.tab {xf : PySem.W.Frag → Bool} {fa : List Fa} {fn : List DefD} {fp : List DefP} {ts : List Tab} {w : World} {K : PySem.W.Frag} (c : SaysW xf fa fn fp ts w K) (i : Nat) {t : Tab} (h : ts[i]? = some t := by rfl) : (∃ es n, KDict K w (t.1 K) es n) ∧ ∀ x, x ∉ t.2 → PySem.W.nsIn K (t.1 K) x = some none := by
  have e2 : (ts.map fun t => dicW K (t.1 K))[i]? = (ts.map fun t => some (keysIn w.params t.2))[i]? := by rw [c.t]
  rw [List.getElem?_map, List.getElem?_map, h] at e2
  have e3 := Option.some.inj e2
  exact ⟨dicW_ok e3, fun x hx => miss_of e3 hx⟩
theorem SaysW.def_ {xf : PySem.W.Frag → Bool} {fa : List Fa} {fn : List DefD} {fp : List DefP} {ts : List Tab} {w : World} {K : PySem.W.Frag} (c : SaysW xf fa fn fp ts w K) (i : Nat) {d : DefP} (h : fp[i]? = some d := by rfl) : ∃ fd, FunD K d.name d.qual d.params d.body d.scope [] [] (d.path K) fd := by
  have e2 : (fp.map fun d => fnAt K (d.path K))[i]? = (fp.map DefP.val)[i]? := by rw [c.v]
  rw [List.getElem?_map, List.getElem?_map, h] at e2
  exact DefP.funD (Option.some.inj e2) (c.p d (List.mem_of_getElem? h))
/-- the class C's own def m, read off the class -/
def cfnB (K : PySem.W.Frag) (C : Str) (m : Str) : Bool := PySem.W.readsIn K (ga K C) (.type "type") && (eqO (PySem.W.specialIn K (.ref (ga K C)) "__getattribute__") (some (some (.builtin "type.__getattribute__"))) &&
  (match PySem.W.findCls K (.ref (ga K C)) (.type "type") m with
    | some (.val (.ref g)) => g == ma K (ga K C) m
    | _ => false))
theorem cfn_ok {K : PySem.W.Frag} {C m : Str} (h : cfnB K C m = true) : CFn K (ga K C) m (ma K (ga K C) m) := by
  obtain ⟨h1, h⟩ := ba h
  obtain ⟨h2, h3⟩ := ba h
  refine ⟨⟨h1, eqO_ok h2⟩, ?_⟩
  split at h3
  · rename_i g e
    rw [e, beq_iff_eq.mp h3]
  · cases h3
end He

namespace K12
open PySem PySem.Spec PyProof.Rows L2
local macro_rules | `(tactic| walk_at "rd1") => `(tactic| first
  | (with_reducible refine Rd.seq ?_) | (with_reducible refine Rd.asg ?_) | (with_reducible refine Rd.ret ?_) | (with_reducible refine Rd.nxt ?_) | (with_reducible refine Rd.ifS ?_)
  | (with_reducible refine Rd.op ?_) | (with_reducible refine Rd.un ?_) | (with_reducible refine Rd.cb ?_) | (with_reducible refine Rd.cons ?_) | (with_reducible refine Rd.nil ?_) | (with_reducible refine Rd.ifx ?_)
  | (with_reducible refine Rd.test ?_) | (with_reducible refine Rd.testB ?_) | (with_reducible refine Rd.notT ?_) | (with_reducible refine Rd.isB ?_) | (with_reducible refine Rd.lst ?_) | (with_reducible refine Rd.tup ?_)
  | (with_reducible refine Rd.call ?_) | (with_reducible refine Rd.asgG ?_) | (with_reducible refine Rd.gNm ?_) | (with_reducible refine Rd.gSb ?_) | (with_reducible refine Rd.gC ?_) | (with_reducible refine Rd.gN ?_)
  | ((with_reducible refine' Rd.var ?hv ?_); (case hv => exact rfl)) | (with_reducible refine Rd.c ?_) | (with_reducible refine Rd.i0 ?_) | (with_reducible refine Rd.neg ?_)
  | ((with_reducible refine' Rd.iC ?hc ?_); (case hc => first | (show (0 : Int) < _; decide) | exact ⟨by decide, by decide⟩ | exact ⟨by decide, by decide, by decide⟩ | exact .inl ⟨by decide, by decide⟩ | exact .inr ⟨by decide, by decide⟩ | exact .inl ⟨by omega, by omega⟩ | (show (0 : Int) < _; omega) | exact ⟨by omega, by omega⟩))
  | ((with_reducible refine' Rd.eqS ?hc ?_); (case hc => rfl)) | ((with_reducible refine' Rd.neS ?hc ?_); (case hc => rfl)))
local macro_rules | `(tactic| walk_at "rd") => `(tactic| repeat walk_at "rd1")
/-! the places of the rows at the text's top (another commit: other places) -/
abbrev i_wall : Nat := 0
abbrev iis_integer : Nat := 9
abbrev iis_between : Nat := 10
abbrev iis_list : Nat := 11
abbrev iis_name : Nat := 12
abbrev iis_where : Nat := 13
abbrev iis_chosen : Nat := 14
abbrev iSheetError : Nat := 16
abbrev iInvalidNumber : Nat := 17
abbrev iInvalidName : Nat := 18
abbrev iInvalidFormula : Nat := 19
abbrev iInvalidChosen : Nat := 20
abbrev iInvalidWhere : Nat := 21
abbrev iInvalidPosition : Nat := 22
abbrev iInvalidText : Nat := 23
abbrev iLimitError : Nat := 24
abbrev iTooMany : Nat := 25
abbrev iFormulaText : Nat := 29
abbrev iwords_of : Nat := 30
abbrev iFormula : Nat := 33
abbrev iNumber : Nat := 34
abbrev iReference : Nat := 35
abbrev iHere : Nat := 36
abbrev iUp : Nat := 37
abbrev iDown : Nat := 38
abbrev iPair : Nat := 39
abbrev iPlus : Nat := 40
abbrev iLeast : Nat := 41
abbrev iMost : Nat := 42
abbrev iSame : Nat := 43
abbrev iChoice : Nat := 44
abbrev i_check_formula : Nat := 45
abbrev i_pair : Nat := 46
abbrev i_leaf : Nat := 47
abbrev i_built : Nat := 48
abbrev i_law_pot : Nat := 50
abbrev i_law_draw : Nat := 51
abbrev i_law_pick : Nat := 52
abbrev i_law_taken : Nat := 53
abbrev i_law_leaf : Nat := 54
abbrev i_law_part : Nat := 55
abbrev i_law_formula : Nat := 56
abbrev i_law_inner : Nat := 57
abbrev i_law_all : Nat := 58
abbrev i_law_deep : Nat := 59
abbrev i_law_with : Nat := 60
abbrev i_law_read_right : Nat := 61
abbrev i_law_is : Nat := 62
abbrev i_law_fits_right : Nat := 63
abbrev i_law_fits_again : Nat := 64
abbrev i_law_put : Nat := 65
abbrev i_law_put_right : Nat := 66
abbrev i_law_chosen : Nat := 67
abbrev i_law_chain : Nat := 68
abbrev i_law_right : Nat := 69
abbrev ilaw : Nat := 70
def topA (i : Nat) : Stmt := PySem.Challenge.pw_belowneeds_k12_nodes_and_parts.main.body.getD i (.Pass ⟨0, 0, 0, 0⟩)
abbrev sPot : Stmt := topA i_law_pot
abbrev sDraw : Stmt := topA i_law_draw
abbrev sPick : Stmt := topA i_law_pick
abbrev FnP (K : PySem.W.Frag) (x : Str) (st : Stmt) (f : Addr) (fd : FuncData) : Prop := FunD K x x (defArgs st) (defBody st) (defScope st) [] [] f fd
/-- all but p as it was -/
def But (p : Addr) (H H' : Hp) : Prop := ∀ b o, b ≠ p → H b = some o → H' b = some o
theorem But.refl {p : Addr} {H : Hp} : But p H H := fun _ _ _ h => h
theorem But.trans {p : Addr} {H H1 H2 : Hp} (a : But p H H1) (b : But p H1 H2) : But p H H2 := fun c o h e => b c o h (a c o h e)
theorem But.new {p q : Addr} {H : Hp} {o : HO} (h : H q = none) : But p H (upd H q o) := fun b u _ e => by rw [upd_ne (ne_of_none e h)]; exact e
theorem But.set {p : Addr} {H : Hp} {o : HO} : But p H (upd H p o) := fun b u hb e => by rw [upd_ne hb]; exact e
/-- a pot of numbers that are left to be drawn -/
def PotAt (H : Hp) (p : Addr) : Prop := ∃ x y : Int, H p = some (.lst [.int x, .int y]) ∧ 0 ≤ x ∧ 0 ≤ y ∧ y < 2147483648
/-! ### promises -/
def spPot (K : PySem.W.Frag) : Sp := fun vs H Q _ => ∃ (a : Addr) (ns : List Int) (k : Nat), vs = [.ref a, .int k] ∧ SqL K H a (ns.map V.int) ∧ ns.length ≤ 63 ∧ k < 1000 ∧ ∀ p H', H p = none → Same H H' → PotAt H' p → Q (.ref p) H'
def spDraw : Sp := fun vs H Q _ => ∃ (p : Addr) (m : Int), vs = [.ref p, .int m] ∧ PotAt H p ∧ 0 < m ∧ m < 2 ^ 2000 ∧ ∀ (d : Int) H', 0 ≤ d → d < m → PotAt H' p → But p H H' → Q (.int d) H'
def spPick (K : PySem.W.Frag) : Sp := fun vs H Q _ => ∃ (p l : Addr) (xs : List V), vs = [.ref p, .ref l] ∧ PotAt H p ∧ H l = some (.lst xs) ∧ l ≠ p ∧ xs ≠ [] ∧ xs.length < 1000000 ∧ ∀ v H', v ∈ xs → PotAt H' p → But p H H' → Q v H'
section
variable {P : Program} {w : World} {K : PySem.W.Frag} {mg : Str → Option Value} {base : Heap} {f fP fD : Addr} {fd fdP fdD : FuncData}
theorem scPot : FnScope ["_law_script", "_law_k", "_law_cell"] ["_law_script", "_law_k"] (defScope sPot) := ⟨rfl, rfl, rfl, by decide +kernel, rfl, by decide +kernel, by decide +kernel⟩
theorem ok_pot (F : FnP K "_law_pot" sPot f fd) (gLen : mg "len" = none) (gAbs : mg "abs" = none) (gMax : mg "max" = none) (gInt : mg "int" = none) : FnOk P w K mg base CX0 1 f fd ["_law_script", "_law_k"] (spPot K) := by
  refine F.ok scPot (fun vs H Q E h => ?_) (fun cdv A outer s H vs Q E hr h => ?_)
  · obtain ⟨a, ns, k, rfl, _⟩ := h
    rfl
  · obtain ⟨a, ns, k, rfl, hS, hl, k1, q⟩ := h
    refine ⟨_, PSs.nox (pss_cons (ps_set (i := 2) scPot.nd rfl (Or.inl rfl) (pe_ifExp (pt_cmpR op_lt (pv 1) (pe_callB call_len rfl gLen boot_len (pa_cons (pv 0) pa_nil)) (nomark _))
        (pe_callB call_abs rfl gAbs boot_abs (pa_cons (pe_ix ix_list (pv 0) (pv 1) (fun _ _ => rfl)) pa_nil)) (pe_op op_add (pe_op op_mul pe_int (pv 1)) pe_int)))
      (pss_one (ps_ret (pe_lst (pa_cons (pe_callB (call_max2 rfl) rfl gMax boot_max (pa_cons pe_int (pa_cons (pe_op op_sub (pv 2) (pe_op op_pow pe_int pe_int)) pa_nil)))
        (pa_cons (pe_op op_add (pe_op op_mod (pe_callTy call_int1 rfl gInt boot_int (pa_cons (pe_op op_add (pe_op op_add (pe_op op_mul (pe_op op_mod (pe_callTy call_int1 rfl gInt boot_int (pa_cons (pv 2) pa_nil)) pe_int) pe_int) (pe_op op_mul pe_int (pv 1))) pe_int) pa_nil)) pe_int) pe_int) pa_nil)))))), ?_⟩
    walk_at "rd"
    refine ⟨_, _, rfl, .inl ⟨_, hS, rfl⟩, ?_⟩
    walk_at "rd"
    have hz : ∀ z : Int, 0 ≤ (if z < 0 then -z else z) := fun z => by split <;> omega
    refine Rd.ifB (fun ht => ?_) (fun ht => ?_)
    · have hk : k < ns.length := by
        have z := of_decide_eq_true ht
        rw [List.length_map] at z
        omega
      walk_at "rd"
      refine ⟨a, _, (k : Int), V.int ns[k], rfl, rfl, hS, atI_nat (by rw [List.getElem?_map, List.getElem?_eq_getElem hk]; rfl), ?_⟩
      walk_at "rd"
      refine ⟨_, rfl, ?_⟩
      have hc := hz ns[k]
      generalize (if ns[k] < 0 then -ns[k] else ns[k]) = c at hc ⊢
      walk_at "rd"
      refine ⟨_, _, rfl, ?_⟩
      walk_at "rd"
      refine .inl ⟨_, rfl, ?_⟩
      walk_at "rd"
      refine .inl ⟨_, rfl, ?_⟩
      walk_at "rd"
      refine ⟨Rd.small (by show 2 ≤ 100000; decide), fun p hp => q p _ hp (fun b u e => by rw [upd_ne (ne_of_none e hp)]; exact e) ⟨_, _, upd_same, by split <;> omega, by omega, by omega⟩⟩
    · walk_at "rd"
      have hc : (0 : Int) ≤ 11 * (k : Int) + 6 := by omega
      generalize 11 * (k : Int) + 6 = c at hc ⊢
      refine ⟨_, _, rfl, ?_⟩
      walk_at "rd"
      refine .inl ⟨_, rfl, ?_⟩
      walk_at "rd"
      refine .inl ⟨_, rfl, ?_⟩
      walk_at "rd"
      refine ⟨Rd.small (by show 2 ≤ 100000; decide), fun p hp => q p _ hp (fun b u e => by rw [upd_ne (ne_of_none e hp)]; exact e) ⟨_, _, upd_same, by split <;> omega, by omega, by omega⟩⟩
theorem div_small {i m : Int} (h : 0 < m) (h2 : m < 2 ^ 2000) : CDivP i m := by
  refine ⟨h, ?_⟩
  have z : m.natAbs.log2 < 2000 := PySem.Flt.log2_lt_of (by decide) (by omega)
  show (decide ((if m == 0 then 0 else m.natAbs.log2 / 30 + 1) > 300) && _) = false
  rw [if_neg (show ¬ (m == 0) = true by simpa using (show m ≠ 0 by omega))]
  have k : ¬ (m.natAbs.log2 / 30 + 1 > 300) := by omega
  rw [decide_eq_false k]
  rfl
theorem scDraw : FnScope ["_law_pot_here", "_law_many", "_law_digit"] ["_law_pot_here", "_law_many"] (defScope sDraw) := ⟨rfl, rfl, rfl, by decide +kernel, rfl, by decide +kernel, by decide +kernel⟩
theorem ok_draw (F : FnP K "_law_draw" sDraw f fd) (gDiv : mg "divmod" = none) (gInt : mg "int" = none) : FnOk P w K mg base CX0 1 f fd ["_law_pot_here", "_law_many"] spDraw := by
  refine F.ok scDraw (fun vs H Q E h => ?_) (fun cdv A outer s H vs Q E hr h => ?_)
  · obtain ⟨p, m, rfl, _⟩ := h
    rfl
  · obtain ⟨p, m, rfl, ⟨x, y, hp, hx, hy, hy2⟩, m0, m1, q⟩ := h
    refine ⟨_, PSs.nox (pss_cons (ps_if (pt_cmpR op_gt (pe_ix ix_list (pv 0) pe_int (fun _ _ => rfl)) pe_int (nomark _))
        (pss_cons (ps_asg (pe_callB call_divmodW rfl gDiv boot_divmod (pa_cons (pe_ix ix_list (pv 0) pe_int (fun _ _ => rfl)) (pa_cons (pv 1) pa_nil)))
          (pg_tup rfl (pgs_cons (pg_sub (pv 0) pe_int set_list) (pgs_cons (pg_name (i := 2) scDraw.nd rfl (Or.inl rfl)) pgs_nil)))) (pss_one (ps_ret (pv 2)))) pss_nil)
      (pss_cons (ps_asg (pe_op op_mod (pe_callTy call_int1 rfl gInt boot_int (pa_cons (pe_op op_add (pe_op op_mul (pe_ix ix_list (pv 0) pe_int (fun _ _ => rfl)) pe_int) pe_int) pa_nil)) pe_int) (pg_sub (pv 0) pe_int set_list))
      (pss_one (ps_ret (pe_op op_mod (pe_callTy call_int1 rfl gInt boot_int (pa_cons (pe_op op_fdiv (pe_op op_mod (pe_callTy call_int1 rfl gInt boot_int (pa_cons (pe_op op_mul (pe_ix ix_list (pv 0) pe_int (fun _ _ => rfl)) (pe_ix ix_list (pv 0) pe_int (fun _ _ => rfl))) pa_nil)) pe_int) pe_int) pa_nil)) (pv 1)))))), ?_⟩
    walk_at "rd"
    refine Rd.ixL (SqL.of hp) (atI_nat (j := 0) rfl) ?_
    walk_at "rd"
    refine Rd.ifB (fun ht => ?_) (fun ht => ?_)
    · have hx0 : 0 < x := of_decide_eq_true ht
      walk_at "rd"
      refine Rd.ixL (SqL.of hp) (atI_nat (j := 0) rfl) ?_
      walk_at "rd"
      refine ⟨_, _, rfl, div_small m0 m1, fun t ht => ?_⟩
      have npt : p ≠ t := ne_of_none hp ht
      refine ⟨t, _, rfl, SqT.of upd_same, rfl, ?_⟩
      walk_at "rd"
      refine Rd.setL (xs := [.int x, .int y]) (j := 0) (by rw [upd_ne npt]; exact hp) rfl ?_
      walk_at "rd"
      refine q _ _ (Int.emod_nonneg _ (by omega)) (Int.emod_lt_of_pos _ m0) ⟨_, _, upd_same, Int.ediv_nonneg hx (by omega), hy, hy2⟩ ?_
      exact But.trans (But.new ht) But.set
    · walk_at "rd"
      refine Rd.ixL (SqL.of hp) (atI_nat (j := 1) rfl) ?_
      walk_at "rd"
      refine .inl ⟨_, rfl, ?_⟩
      walk_at "rd"
      refine Rd.setL (j := 1) hp rfl ?_
      walk_at "rd"
      have z0 : 0 ≤ (y * 39373 + 12227) % 2147483587 := by omega
      have z1 : (y * 39373 + 12227) % 2147483587 < 2147483587 := by omega
      generalize (y * 39373 + 12227) % 2147483587 = z at z0 z1 ⊢
      have hp2 : upd H p (.lst ([V.int x, V.int y].set 1 (V.int z))) p = some (.lst [.int x, .int z]) := upd_same
      refine Rd.ixL (SqL.of hp2) (atI_nat (j := 1) rfl) ?_
      walk_at "rd"
      refine Rd.ixL (SqL.of hp2) (atI_nat (j := 1) rfl) ?_
      walk_at "rd"
      refine .inl ⟨_, rfl, ?_⟩
      walk_at "rd"
      refine .inl ⟨_, rfl, ?_⟩
      walk_at "rd"
      exact q _ _ (Int.emod_nonneg _ (by omega)) (Int.emod_lt_of_pos _ m0) ⟨_, _, hp2, hx, z0, by omega⟩ But.set
theorem scPick : FnScope ["_law_pot_here", "_law_some"] ["_law_pot_here", "_law_some"] (defScope sPick) := ⟨rfl, rfl, rfl, by decide +kernel, rfl, by decide +kernel, by decide +kernel⟩
theorem ok_pick (F : FnP K "_law_pick" sPick f fd) (FD : FnP K "_law_draw" sDraw fD fdD) (gDraw : mg "_law_draw" = some (.ref fD)) (gLen : mg "len" = none) (gDiv : mg "divmod" = none) (gInt : mg "int" = none) : FnOk P w K mg base CX0 2 f fd ["_law_pot_here", "_law_some"] (spPick K) := by
  have GD : FnOk P w K mg base CX0 1 fD fdD ["_law_pot_here", "_law_many"] spDraw := ok_draw FD gDiv gInt
  have bD : Binds K fdD ["_law_pot_here", "_law_many"] [] := FD.bindsN fun _ _ _ _ _ _ us hl => match us, hl with | [_, _], _ => rfl
  refine F.ok scPick (fun vs H Q E h => ?_) (fun cdv A outer s H vs Q E hr h => ?_)
  · obtain ⟨p, l, xs, rfl, _⟩ := h
    rfl
  · obtain ⟨p, l, xs, rfl, hp, hl, nlp, hne, hz, q⟩ := h
    refine ⟨_, PSs.nox (pss_one (ps_ret (pe_ix ix_list (pv 1) (pe_call GD hr rfl gDraw FD.kp bD .nil pass0 (pa_cons (pv 0) (pa_cons (pe_callB call_len rfl gLen boot_len (pa_cons (pv 1) pa_nil)) pa_nil))) (fun _ _ => rfl)))), ?_⟩
    walk_at "rd"
    refine ⟨_, _, rfl, .inl ⟨_, SqL.of hl, rfl⟩, ?_⟩
    walk_at "rd"
    have h0 : 0 < xs.length := List.length_pos_iff.mpr hne
    refine ⟨p, _, rfl, hp, by omega, Int.lt_trans (show (xs.length : Int) < 1000000 by omega) (by decide +kernel), fun d H1 d0 d1 hp1 hb => ?_⟩
    obtain ⟨j, rfl⟩ := Int.eq_ofNat_of_zero_le d0
    have hj : j < xs.length := by omega
    refine Rd.ixL (SqL.of (hb l _ nlp hl)) (atI_nat (List.getElem?_eq_getElem hj)) ?_
    exact q _ _ (List.getElem_mem hj) hp1 hb
end
end K12

namespace K12
open PySem PySem.Spec PyProof.Rows L2
local macro_rules | `(tactic| walk_at "rd1") => `(tactic| first
  | (with_reducible refine Rd.seq ?_) | (with_reducible refine Rd.asg ?_) | (with_reducible refine Rd.ret ?_) | (with_reducible refine Rd.nxt ?_) | (with_reducible refine Rd.ifS ?_)
  | (with_reducible refine Rd.op ?_) | (with_reducible refine Rd.un ?_) | (with_reducible refine Rd.cb ?_) | (with_reducible refine Rd.cons ?_) | (with_reducible refine Rd.nil ?_) | (with_reducible refine Rd.ifx ?_)
  | (with_reducible refine Rd.test ?_) | (with_reducible refine Rd.testB ?_) | (with_reducible refine Rd.notT ?_) | (with_reducible refine Rd.isB ?_) | (with_reducible refine Rd.lst ?_) | (with_reducible refine Rd.tup ?_)
  | (with_reducible refine Rd.andV ?_) | (with_reducible refine Rd.orV ?_) | (with_reducible refine Rd.notV ?_) | (with_reducible refine Rd.andT ?_) | (with_reducible refine Rd.orT ?_) | (with_reducible refine Rd.chain ?_)
  | (with_reducible refine Rd.m0 ?_) | (with_reducible refine Rd.m1 ?_) | (with_reducible refine Rd.bm0 ?_) | (with_reducible refine Rd.bm ?_) | (with_reducible refine Rd.sl ?_) | (with_reducible refine Rd.part ?_) | (with_reducible refine Rd.part0 ?_) | (with_reducible refine Rd.isI ?_)
  | (with_reducible refine Rd.fmt ?_) | (with_reducible refine Rd.fmtRD ?_) | (with_reducible refine Rd.meth ?_) | (with_reducible refine Rd.make ?_) | (with_reducible refine Rd.prop ?_) | (with_reducible refine Rd.js ?_) | (with_reducible refine Rd.js0 ?_) | (with_reducible refine Rd.par ?_) | (with_reducible refine Rd.star ?_) | (with_reducible refine lcR1 ?_) | (with_reducible refine lcR2 ?_) | (with_reducible refine Rd.fld ?_) | (with_reducible refine Rd.sfld ?_) | (with_reducible refine Rd.expr ?_) | (with_reducible refine L2.isNR ?_) | (with_reducible refine L2.methI ?_) | (with_reducible refine Rd.forZ ?_)
  | (with_reducible refine Rd.forEA ?_) | (with_reducible refine Rd.forR1 ?_) | (with_reducible refine Rd.forR2 ?_) | (with_reducible refine Rd.forL ?_) | (with_reducible refine Rd.forT ?_)
  | (with_reducible refine Rd.call ?_) | (with_reducible refine Rd.asgG ?_) | (with_reducible refine Rd.gNm ?_) | (with_reducible refine Rd.gSb ?_) | (with_reducible refine Rd.gC ?_) | (with_reducible refine Rd.gN ?_)
  | ((with_reducible refine' Rd.var ?hv ?_); (case hv => exact rfl)) | (with_reducible refine Rd.c ?_) | (with_reducible refine Rd.i0 ?_) | (with_reducible refine Rd.neg ?_)
  | ((with_reducible refine' Rd.iC ?hc ?_); (case hc => first | (show (0 : Int) < _; decide) | exact ⟨by decide, by decide⟩ | exact ⟨by decide, by decide, by decide⟩ | exact .inl ⟨by decide, by decide⟩ | exact .inr ⟨by decide, by decide⟩ | exact .inl ⟨by omega, by omega⟩ | (show (0 : Int) < _; omega) | exact ⟨by omega, by omega⟩))
  | ((with_reducible refine' Rd.eqS ?hc ?_); (case hc => rfl)) | ((with_reducible refine' Rd.neS ?hc ?_); (case hc => rfl)))
local macro_rules | `(tactic| walk_at "rd") => `(tactic| repeat walk_at "rd1")
theorem same_new {H : Hp} {q : Addr} {o : HO} (h : H q = none) : Same H (upd H q o) := fun b u e => by rw [upd_ne (ne_of_none e h)]; exact e
/-! ### the classes of formulas -/
def reserved : List Str := ["if", "then", "else", "in", "here", "up", "down", "least", "most"]
def fldNames : List Str := ["_called", "_given", "_parts", "_many", "_sequence", "depth", "value", "where", "column", "left", "right", "test", "chosen", "then", "other"]
/-- a class of formulas: its attributes are the objects' own -/
structure Fc (K : PySem.W.Frag) (C : Addr) : Prop where
  cl : Cls K C
  na : ∀ f ∈ fldNames, NoAttr K C f
theorem Fc.no {K : PySem.W.Frag} {C : Addr} (c : Fc K C) (f : Str) (h : f ∈ fldNames := by decide) : NoAttr K C f := c.na f h
/-- a part: an object with so many nodes, of such a depth -/
def PartAt (K : PySem.W.Frag) (H : Hp) (v : V) (q : Nat × Nat) : Prop := ∃ a C dx fs, v = .ref a ∧ H a = some (.ins C dx fs) ∧ Fc K C ∧ fs.lookup ("_many" : Str) = some (.int (q.1 : Nat)) ∧ fs.lookup ("depth" : Str) = some (.int (q.2 : Nat))
def fmN (ps : List (Nat × Nat)) : Nat := ps.foldl (fun m p => m + p.1) 1
def fmD (ps : List (Nat × Nat)) : Nat := ps.foldl (fun m p => if m ≤ p.2 then p.2 + 1 else m) 0
theorem fmN_take {ps : List (Nat × Nat)} {i : Nat} {p : Nat × Nat} (h : ps[i]? = some p) : fmN (ps.take (i + 1)) = fmN (ps.take i) + p.1 := by
  unfold fmN
  rw [List.take_add_one, h, Option.toList_some, List.foldl_append]
  rfl
theorem fmD_take {ps : List (Nat × Nat)} {i : Nat} {p : Nat × Nat} (h : ps[i]? = some p) : fmD (ps.take (i + 1)) = if fmD (ps.take i) ≤ p.2 then p.2 + 1 else fmD (ps.take i) := by
  unfold fmD
  rw [List.take_add_one, h, Option.toList_some, List.foldl_append]
  rfl
structure Parts (K : PySem.W.Frag) (H : Hp) (vs : List V) (ps : List (Nat × Nat)) : Prop where
  len : vs.length = ps.length
  at_ : ∀ (i : Nat) (v : V), vs[i]? = some v → ∃ q, ps[i]? = some q ∧ PartAt K H v q
def baseFs (name : Str) (g p : Addr) (n d : Nat) : List (Str × V) := [("_called", .str name), ("_given", .ref g), ("_parts", .ref p), ("_many", .int (n : Nat)), ("_sequence", .non), ("depth", .int (d : Nat))]
/-- numbers that the text's top has written -/
structure Gf (mg : Str → Option Value) : Prop where
  mn : ∃ t, mg "MAX_NODES" = some (.int 40 t)
  md : ∃ t, mg "MAX_DEPTH" = some (.int 8 t)
  gn : ∃ t, mg "GREATEST_NUMBER" = some (.int 8 t)
def sMeth (c j : Nat) : Stmt := inClass (topA c) j
abbrev sInitF : Stmt := sMeth iFormula 0
def spInitF (K : PySem.W.Frag) : Sp := fun args H Q _ => ∃ (x C dx g p : Addr) (name : Str) (vs : List V) (ps : List (Nat × Nat)), args = [.ref x, .str name, .ref g, .ref p] ∧ H x = some (.ins C dx []) ∧ Fc K C ∧ SqT K H p vs ∧ Parts K H vs ps ∧ fmN ps ≤ 40 ∧ fmD ps ≤ 8 ∧
  ∀ H', But x H H' → H' x = some (.ins C dx (baseFs name g p (fmN ps) (fmD ps))) → Q .non H'
section
variable {P : Program} {w : World} {K : PySem.W.Frag} {mg : Str → Option Value} {base : Heap} {f : Addr} {fd : FuncData}
theorem scInitF : FnScope ["self", "name", "given", "parts", "many", "depth", "part"] ["self", "name", "given", "parts"] (defScope sInitF) := ⟨rfl, rfl, rfl, by decide +kernel, rfl, by decide +kernel, by decide +kernel⟩
theorem ok_initF (F : FunD K "__init__" "Formula.__init__" (defArgs sInitF) (defBody sInitF) (defScope sInitF) [] [] f fd) (T : Gf mg) : FnOk P w K mg base CX0 1 f fd ["self", "name", "given", "parts"] (spInitF K) := by
  obtain ⟨t1, gN⟩ := T.mn
  obtain ⟨t2, gD⟩ := T.md
  refine F.ok scInitF (fun vs H Q E h => ?_) (fun cdv A outer s H vs Q E hr h => ?_)
  · obtain ⟨x, C, dx, g, p, name, us, ps, rfl, _⟩ := h
    rfl
  · obtain ⟨x, C, dx, g, p, name, us, ps, rfl, hx, fc, hp, pt, le1, le2, q⟩ := h
    refine ⟨_, PSs.nox (pss_cons (ps_set (i := 4) scInitF.nd rfl (Or.inl rfl) pe_int) (pss_cons (ps_set (i := 5) scInitF.nd rfl (Or.inl rfl) pe_int)
      (pss_cons (ps_for PassesOwn.never rfl (pi_tup (pv 3)) (pg_name (i := 6) scInitF.nd rfl (Or.inl rfl))
        (pss_cons (ps_set (i := 4) scInitF.nd rfl (Or.inl rfl) (pe_op op_add (pv 4) (pe_fld (pv 6) rfl)))
        (pss_one (ps_if (pt_cmpR op_ge (pe_fld (pv 6) rfl) (pv 5) (nomark _)) (pss_one (ps_set (i := 5) scInitF.nd rfl (Or.inl rfl) (pe_op op_add (pe_fld (pv 6) rfl) pe_int))) pss_nil))))
      (pss_cons (ps_if (pt_cmpR op_gt (pv 4) (pe_glob rfl gN (v := .int 40) ⟨_, rfl⟩) (nomark _)) (pss_one ps_never) pss_nil)
      (pss_cons (ps_if (pt_cmpR op_gt (pv 5) (pe_glob rfl gD (v := .int 8) ⟨_, rfl⟩) (nomark _)) (pss_one ps_never) pss_nil)
      (pss_cons (ps_fld (pv 0) (pv 1) rfl) (pss_cons (ps_fld (pv 0) (pv 2) rfl) (pss_cons (ps_fld (pv 0) (pv 3) rfl) (pss_cons (ps_fld (pv 0) (pv 4) rfl) (pss_cons (ps_fld (pv 0) pe_non rfl)
      (pss_one (ps_fld (pv 0) (pv 5) rfl)))))))))))), ?_⟩
    walk_at "rd"
    refine ⟨p, rfl, ⟨_, hp⟩, ?_⟩
    refine for_it walk_tup (fun i σ H' => (∃ b, σ = [some (.ref x), some (.str name), some (.ref g), some (.ref p), some (.int (fmN (ps.take i) : Nat)), some (.int (fmD (ps.take i) : Nat)), b]) ∧ H' = H) ⟨⟨_, rfl⟩, rfl⟩ (fun i σ H' _ z => by rw [z.2]; exact hp) (fun i v σ H2 H3 hi hy z => ?_) (fun σ H' z => ?_)
    · obtain ⟨⟨b, rfl⟩, rfl⟩ := hy
      obtain ⟨rfl, ev⟩ := z
      obtain ⟨c, ec, a', C', dx', fs', rfl, ha', fc', l1, l2⟩ := pt.at_ i v ev
      walk_at "rd"
      refine ⟨a', C', dx', fs', _, rfl, ha', fc'.cl, fc'.no "_many", l1, ?_⟩
      walk_at "rd"
      refine ⟨a', C', dx', fs', _, rfl, ha', fc'.cl, fc'.no "depth", l2, ?_⟩
      walk_at "rd"
      have e1 : ((fmN (ps.take i) : Nat) : Int) + ((c.1 : Nat) : Int) = ((fmN (ps.take (i + 1)) : Nat) : Int) := by rw [fmN_take ec, Int.natCast_add]
      have e2 := fmD_take ec
      refine Rd.ifB (fun z => ?_) (fun z => ?_)
      · have z := of_decide_eq_true z
        walk_at "rd"
        refine ⟨a', C', dx', fs', _, rfl, ha', fc'.cl, fc'.no "depth", l2, ?_⟩
        walk_at "rd"
        rw [if_pos (by omega)] at e2
        refine ⟨⟨some (.ref a'), ?_⟩, rfl⟩
        rw [← e1, e2, Int.natCast_add]
        rfl
      · have z := of_decide_eq_false z
        walk_at "rd"
        rw [if_neg (by omega)] at e2
        refine ⟨⟨some (.ref a'), ?_⟩, rfl⟩
        rw [← e1, e2]
        rfl
    · obtain ⟨⟨b, rfl⟩, rfl⟩ := z
      rw [pt.len, List.take_length]
      walk_at "rd"
      refine Rd.ifB (fun z => ?_) (fun _ => ?_)
      · have := of_decide_eq_true z
        omega
      walk_at "rd"
      refine Rd.ifB (fun z => ?_) (fun _ => ?_)
      · have := of_decide_eq_true z
        omega
      walk_at "rd"
      refine ⟨x, C, dx, _, rfl, hx, fc.cl, fc.no "_called", (by decide : 0 < 1000), ?_⟩
      have x1 := upd_same (H := H') (a := x) (o := HO.ins C dx (putF "_called" (.str name) []))
      have b1 := But.set (p := x) (H := H') (o := HO.ins C dx (putF "_called" (.str name) []))
      generalize upd H' x (HO.ins C dx (putF "_called" (.str name) [])) = H1 at x1 b1 ⊢
      walk_at "rd"
      refine ⟨x, C, dx, [("_called", .str name)], rfl, x1, fc.cl, fc.no "_given", (by decide : 1 < 1000), ?_⟩
      have x2 := upd_same (H := H1) (a := x) (o := HO.ins C dx (putF "_given" (.ref g) [("_called", .str name)]))
      have b2 := But.set (p := x) (H := H1) (o := HO.ins C dx (putF "_given" (.ref g) [("_called", .str name)]))
      generalize upd H1 x (HO.ins C dx (putF "_given" (.ref g) [("_called", .str name)])) = H2 at x2 b2 ⊢
      walk_at "rd"
      refine ⟨x, C, dx, [("_called", .str name), ("_given", (.ref g))], rfl, x2, fc.cl, fc.no "_parts", (by decide : 2 < 1000), ?_⟩
      have x3 := upd_same (H := H2) (a := x) (o := HO.ins C dx (putF "_parts" (.ref p) [("_called", .str name), ("_given", (.ref g))]))
      have b3 := But.set (p := x) (H := H2) (o := HO.ins C dx (putF "_parts" (.ref p) [("_called", .str name), ("_given", (.ref g))]))
      generalize upd H2 x (HO.ins C dx (putF "_parts" (.ref p) [("_called", .str name), ("_given", (.ref g))])) = H3 at x3 b3 ⊢
      walk_at "rd"
      refine ⟨x, C, dx, [("_called", .str name), ("_given", (.ref g)), ("_parts", (.ref p))], rfl, x3, fc.cl, fc.no "_many", (by decide : 3 < 1000), ?_⟩
      have x4 := upd_same (H := H3) (a := x) (o := HO.ins C dx (putF "_many" (.int (fmN ps : Nat)) [("_called", .str name), ("_given", (.ref g)), ("_parts", (.ref p))]))
      have b4 := But.set (p := x) (H := H3) (o := HO.ins C dx (putF "_many" (.int (fmN ps : Nat)) [("_called", .str name), ("_given", (.ref g)), ("_parts", (.ref p))]))
      generalize upd H3 x (HO.ins C dx (putF "_many" (.int (fmN ps : Nat)) [("_called", .str name), ("_given", (.ref g)), ("_parts", (.ref p))])) = H4 at x4 b4 ⊢
      walk_at "rd"
      refine ⟨x, C, dx, [("_called", .str name), ("_given", (.ref g)), ("_parts", (.ref p)), ("_many", (.int (fmN ps : Nat)))], rfl, x4, fc.cl, fc.no "_sequence", (by decide : 4 < 1000), ?_⟩
      have x5 := upd_same (H := H4) (a := x) (o := HO.ins C dx (putF "_sequence" (.non) [("_called", .str name), ("_given", (.ref g)), ("_parts", (.ref p)), ("_many", (.int (fmN ps : Nat)))]))
      have b5 := But.set (p := x) (H := H4) (o := HO.ins C dx (putF "_sequence" (.non) [("_called", .str name), ("_given", (.ref g)), ("_parts", (.ref p)), ("_many", (.int (fmN ps : Nat)))]))
      generalize upd H4 x (HO.ins C dx (putF "_sequence" (.non) [("_called", .str name), ("_given", (.ref g)), ("_parts", (.ref p)), ("_many", (.int (fmN ps : Nat)))])) = H5 at x5 b5 ⊢
      walk_at "rd"
      refine ⟨x, C, dx, [("_called", .str name), ("_given", (.ref g)), ("_parts", (.ref p)), ("_many", (.int (fmN ps : Nat))), ("_sequence", .non)], rfl, x5, fc.cl, fc.no "depth", (by decide : 5 < 1000), ?_⟩
      have x6 := upd_same (H := H5) (a := x) (o := HO.ins C dx (putF "depth" (.int (fmD ps : Nat)) [("_called", .str name), ("_given", (.ref g)), ("_parts", (.ref p)), ("_many", (.int (fmN ps : Nat))), ("_sequence", .non)]))
      have b6 := But.set (p := x) (H := H5) (o := HO.ins C dx (putF "depth" (.int (fmD ps : Nat)) [("_called", .str name), ("_given", (.ref g)), ("_parts", (.ref p)), ("_many", (.int (fmN ps : Nat))), ("_sequence", .non)]))
      generalize upd H5 x (HO.ins C dx (putF "depth" (.int (fmD ps : Nat)) [("_called", .str name), ("_given", (.ref g)), ("_parts", (.ref p)), ("_many", (.int (fmN ps : Nat))), ("_sequence", .non)])) = H6 at x6 b6 ⊢
      walk_at "rd"
      exact q _ (b1.trans (b2.trans (b3.trans (b4.trans (b5.trans b6))))) x6
end
end K12

namespace K12
open PySem PySem.Spec PyProof.Rows L2
def dTop (i : Nat) (x : Str) : He.DefD := ⟨(x, none), x, x, defArgs (topA i), defBody (topA i), defScope (topA i), [], []⟩
def dMeth (c : Nat) (C : Str) (j : Nat) (m : Str) : He.DefD := ⟨(C, some m), m, C ++ "." ++ m, defArgs (sMeth c j), defBody (sMeth c j), defScope (sMeth c j), [], []⟩
def conc : List Str := ["Number", "Here", "Up", "Down", "Plus", "Least", "Most", "Same", "Choice"]
def fcB (K : PySem.W.Frag) (C : Addr) : Bool := fldNames.all fun f => He.eqO (PySem.W.findIn K (.ref C) f) (some none)
def kiB (K : PySem.W.Frag) (C : Addr) : Bool := He.eqO (PySem.W.findIn K (.ref C) "__class__") (some (some (.builtin "object.__class__"))) && (decide (PySem.W.mroIn K C (.type "object") = some true) && decide (PySem.W.kitOne K (.ref C) (.ref (He.ga K "Formula")) = some true))
def gtB (K : PySem.W.Frag) : Bool := He.eqO (PySem.W.specialIn K (.builtin "object.__class__") "__get__") (some (some (.builtin "getset_descriptor.__get__"))) && decide (PySem.W.takesIn K (.builtin "object.__class__") = some true)
def supC : List Str := ["Formula", "Reference", "Pair"]
def ofC : List Str := ["Plus", "Least", "Most", "Same", "Choice"]
def mF (K : PySem.W.Frag) (m : Str) : Addr := He.ma K (He.ga K "Formula") m
def mems : List Str := ["__eq__", "__len__", "_every", "_with_node", "put", "nodes", "columns_read", "fits"]
def ownB (K : PySem.W.Frag) (C f : Addr) (m : Str) : Bool := He.eqO (PySem.W.findIn K (.ref C) m) (some (some (.ref f))) && PySem.W.isFn K (.ref f)
def clsB (K : PySem.W.Frag) (x : Str) : Bool := (fun C => mems.all (fun m => ownB K C (mF K m) m) && He.eqO (PySem.W.findIn K (.ref C) "__ne__") (some (some (.builtin "object.__ne__")))) (He.ga K x)
def prB (K : PySem.W.Frag) (x y : Str) : Bool := PySem.W.notFirst K (He.ga K x) (.ref (He.ga K y))
def fiB (K : PySem.W.Frag) (s : Str × Str) : Bool := ownB K (He.ga K s.1) (He.ma K (He.ga K s.2) "_fits_itself") "_fits_itself"
def fis : List (Str × Str) := [("Number", "Number"), ("Here", "Reference"), ("Up", "Reference"), ("Down", "Reference"), ("Plus", "Formula"), ("Least", "Formula"), ("Most", "Formula"), ("Same", "Formula"), ("Choice", "Choice")]
def bmA : List Value := [.type "ArithmeticError", .type "Exception", .type "BaseException", .type "object"]
def xcB (K : PySem.W.Frag) (C : Addr) : Bool :=
  PySem.W.excInitIn K C bmA "ArithmeticError.__new__" && (PySem.W.excOver K C bmA && (PySem.W.hasDictIn K C && (He.eqO (PySem.W.findIn K (.ref C) "__setattr__") (some (some (.builtin "object.__setattr__"))) &&
  (He.eqO (PySem.W.findIn K (.ref C) "__getattribute__") (some (some (.builtin "BaseException.__getattribute__"))) && (He.eqO (PySem.W.findIn K (.ref C) "__getattr__") (some none) &&
  (decide (PySem.W.subIn K (.ref C) (.type "BaseException") = some true) && (decide (PySem.W.typeIn K (.ref C) = some (.type "type")) && (PySem.W.keepIn K (.ref C) &&
  (He.eqO (PySem.W.findIn K (.ref C) "__class__") (some (some (.builtin "object.__class__"))) && decide (PySem.W.mroIn K C (.type "object") = some true))))))))))
def tmB (K : PySem.W.Frag) : Bool := (fun C f => xcB K C && (He.eqO (PySem.W.findIn K (.ref C) "__init__") (some (some (.ref f))) && (decide (PySem.W.typeIn K (.ref f) = some (.type "function")) && (He.eqO (PySem.W.findIn K (.ref C) "what") (some none) && (He.eqO (PySem.W.findIn K (.ref C) "limit") (some none) &&
  (decide (PySem.W.exmOne K (.ref C) (.ref C) = some true) && decide (PySem.W.kitOne K (.ref C) (.ref (He.ga K "LimitError")) = some true))))))) (He.ga K "TooMany") (He.ma K (He.ga K "TooMany") "__init__")
def txB (x : Str) : Value → Bool
  | .str y _ => decide (y = x)
  | _ => false
def whB (K : PySem.W.Frag) : Bool := match K.lookup (He.ga K "WHERES") with
  | some o => decide (o.cls = .type "tuple") && (match o.data with
    | .seq its _ => (match its.toList with
      | [a, b, c] => txB "here" a && (txB "up" b && txB "down" c)
      | _ => false)
    | _ => false)
  | none => false
def rfB (K : PySem.W.Frag) (x y : Str) : Bool := match PySem.W.nsIn K (He.ga K "REFERENCES") x with
  | some (some v) => txB y v
  | _ => false
def rfsB (K : PySem.W.Frag) : Bool := rfB K "here" "Here" && (rfB K "up" "Up" && rfB K "down" "Down")
def ofB (K : PySem.W.Frag) (x : Str) : Bool := ownB K (He.ga K x) (He.ma K (He.ga K x) "_of_parts") "_of_parts"
def xf (K : PySem.W.Frag) : Bool := smOk K && (gtB K && (conc.all (fun x => fcB K (He.ga K x) && kiB K (He.ga K x)) && (supC.all (fun x => He.cfnB K x "__init__") && (conc.all (clsB K) && (conc.all (fun x => conc.all (prB K x)) && (fis.all (fiB K) && (tmB K && (whB K && (rfsB K && ofC.all (ofB K))))))))))
def fn : List He.DefD := [dTop iis_between "is_between", dTop iis_list "is_list", dTop iis_name "is_name", dTop iis_chosen "is_chosen", dTop i_check_formula "_check_formula", dTop iis_where "is_where", dTop i_law_pot "_law_pot", dTop i_law_draw "_law_draw", dTop i_law_pick "_law_pick", dTop i_law_taken "_law_taken", dTop i_law_leaf "_law_leaf", dTop i_law_part "_law_part", dTop i_law_formula "_law_formula", dTop i_law_inner "_law_inner", dTop i_law_all "_law_all", dTop i_law_deep "_law_deep", dTop i_law_with "_law_with", dTop i_law_read_right "_law_read_right", dTop i_law_is "_law_is", dTop i_law_fits_right "_law_fits_right", dTop i_law_fits_again "_law_fits_again", dTop i_law_put "_law_put", dTop i_law_put_right "_law_put_right", dTop i_law_chosen "_law_chosen", dTop i_law_chain "_law_chain", dTop i_law_right "_law_right", dTop ilaw "law", dMeth iFormula "Formula" 0 "__init__", dMeth iFormula "Formula" 10 "__len__", dMeth iFormula "Formula" 12 "__eq__", dMeth iFormula "Formula" 15 "_every", dMeth iFormula "Formula" 17 "_with_node", dMeth iFormula "Formula" 4 "put", dMeth iFormula "Formula" 2 "nodes", dMeth iFormula "Formula" 3 "columns_read", dMeth iFormula "Formula" 5 "fits", dMeth iPlus "Plus" 3 "_of_parts", dMeth iLeast "Least" 3 "_of_parts", dMeth iMost "Most" 3 "_of_parts", dMeth iSame "Same" 3 "_of_parts", dMeth iChoice "Choice" 4 "_of_parts", dMeth iFormula "Formula" 16 "_fits_itself", dMeth iNumber "Number" 2 "_fits_itself", dMeth iReference "Reference" 2 "_fits_itself", dMeth iChoice "Choice" 2 "_fits_itself", dMeth iNumber "Number" 0 "__init__", dMeth iReference "Reference" 0 "__init__", dMeth iHere "Here" 0 "__init__", dMeth iUp "Up" 0 "__init__", dMeth iDown "Down" 0 "__init__", dMeth iPair "Pair" 0 "__init__", dMeth iPlus "Plus" 0 "__init__", dMeth iLeast "Least" 0 "__init__", dMeth iMost "Most" 0 "__init__", dMeth iSame "Same" 0 "__init__", dMeth iChoice "Choice" 0 "__init__", dMeth iTooMany "TooMany" 0 "__init__"]
def fp : List He.DefP := []
def ts : List He.Tab := [(fun K => He.ga K "RESERVED", reserved), (fun K => He.ga K "REFERENCES", ["here", "up", "down"])]
def fa : List He.Fa := [.glo "is_between", .glo "is_list", .glo "is_name", .glo "is_chosen", .glo "_check_formula", .glo "is_where", .glo "_law_pot", .glo "_law_draw", .glo "_law_pick", .glo "_law_taken", .glo "_law_leaf", .glo "_law_part", .glo "_law_formula", .glo "_law_inner", .glo "_law_all", .glo "_law_deep", .glo "_law_with", .glo "_law_read_right", .glo "_law_is", .glo "_law_fits_right", .glo "_law_fits_again", .glo "_law_put", .glo "_law_put_right", .glo "_law_chosen", .glo "_law_chain", .glo "_law_right", .glo "law", .glo "RESERVED", .int "LONGEST_NAME" 8, .int "MAX_NODES" 40, .int "MAX_DEPTH" 8, .int "GREATEST_NUMBER" 8, .glo "Formula", .glo "Reference", .glo "Pair", .glo "Number", .glo "Here", .glo "Up", .glo "Down", .glo "Plus", .glo "Least", .glo "Most", .glo "Same", .glo "Choice", .cls "Number", .cls "Here", .cls "Up", .cls "Down", .cls "Plus", .cls "Least", .cls "Most", .cls "Same", .cls "Choice", .mkr "Number", .mkr "Here", .mkr "Up", .mkr "Down", .mkr "Plus", .mkr "Least", .mkr "Most", .mkr "Same", .mkr "Choice", .free "len", .free "abs", .free "max", .free "min", .free "int", .free "divmod", .free "isinstance", .free "bool", .free "list", .free "tuple", .free "str", .free "repr", .free "enumerate", .free "range", .free "all", .free "zip", .free "sorted", .free "set", .glo "TooMany", .glo "LimitError", .glo "WHERES", .glo "REFERENCES"]
abbrev R : PySem.W.OpenRow := PySem.W.OpenLaw.row PySem.Challenge.rw_belowneeds_k12_nodes_and_parts
abbrev hk : PySem.W.Hook := He.hookW 6 xf fa fn fp ts
def ob (s : PySem.W.SharedT) : He.AlW := He.obsWG 6 xf fa fn fp ts (HandSHeadRun.getT s)
theorem ob_eq (s : PySem.W.SharedT) : ob s = hk.obs s.abs := He.obsWG_eq (HandSHeadRun.getT_eq s)
def loose : List Str := (["_wall", "MAX_NODES", "MAX_DEPTH", "GREATEST_NUMBER", "LONGEST_NAME", "RESERVED", "WHERES", "DIGITS", "is_integer", "is_between", "is_list", "is_name", "is_where", "is_chosen", "SheetError", "InvalidNumber", "InvalidName", "InvalidFormula"] : List Str) ++ (["InvalidChosen", "InvalidWhere", "InvalidPosition", "InvalidText", "LimitError", "TooMany", "LONGEST_TEXT", "END", "FormulaText", "words_of", "REFERENCES", "Formula", "Number", "Reference", "Here", "Up", "Down", "Pair"] : List Str) ++ (["Plus", "Least", "Most", "Same", "Choice", "_check_formula", "_pair", "_leaf", "_built", "_law_pot", "_law_draw", "_law_pick", "_law_taken", "_law_leaf", "_law_part", "_law_formula", "_law_inner", "_law_all"] : List Str) ++ (["_law_deep", "_law_with", "_law_read_right", "_law_is", "_law_fits_right", "_law_fits_again", "_law_put", "_law_put_right", "_law_chosen", "_law_chain", "_law_right"] : List Str)
abbrev topI : Nat := 70
end K12
namespace K12
open PySem PySem.W PySem.Spec PySem.Calls PyProof.Rows HandSHeadRun He
def kf (s : PySem.W.SharedT) : PySem.W.Frag := frG (HandSHeadRun.getT s) (as0 6 (HandSHeadRun.getT s))
noncomputable abbrev runO (w : World) (os : OsState) := endF (stepQ (denQ tabQ) R.prog w) 12000 R.prog w os
noncomputable abbrev qv : Program := view R.prog [topI]
def row : String := "special-get-raises"
theorem run_a_false (w : World) (os : OsState) : (runO (w.withFollow row false) os).map (fun s => (looksF R.prog (boot_heap (w.withFollow row false).params) s.abs, seenQ qv loose (importedModules R.prog.main.body) (fun s => xlAt qv [] s && recOk R.toRowW.records s) s.abs)) = some (true, openGood qv loose) := by
  kernel_rfl
theorem run_b_false (w : World) (os : OsState) : (runO (w.withFollow row false) os).map (fun s => xf (kf s) && fp.all fun d => d.ok (kf s)) = some true := by
  kernel_rfl
theorem run_c_false (w : World) (os : OsState) : (runO (w.withFollow row false) os).map (fun s => (obsD fa fn (kf s), (fp.map fun d => fnAt (kf s) (d.path (kf s))), ts.map fun t => dicW (kf s) (t.1 (kf s)))) = some (valD fn, fp.map DefP.val, ts.map fun t => some (keysIn (w.withFollow row false).params t.2)) := by
  kernel_rfl
theorem run_a_true (w : World) (os : OsState) : (runO (w.withFollow row true) os).map (fun s => (looksF R.prog (boot_heap (w.withFollow row true).params) s.abs, seenQ qv loose (importedModules R.prog.main.body) (fun s => xlAt qv [] s && recOk R.toRowW.records s) s.abs)) = some (true, openGood qv loose) := by
  kernel_rfl
theorem run_b_true (w : World) (os : OsState) : (runO (w.withFollow row true) os).map (fun s => xf (kf s) && fp.all fun d => d.ok (kf s)) = some true := by
  kernel_rfl
theorem run_c_true (w : World) (os : OsState) : (runO (w.withFollow row true) os).map (fun s => (obsD fa fn (kf s), (fp.map fun d => fnAt (kf s) (d.path (kf s))), ts.map fun t => dicW (kf s) (t.1 (kf s)))) = some (valD fn, fp.map DefP.val, ts.map fun t => some (keysIn (w.withFollow row true).params t.2)) := by
  kernel_rfl
theorem run (w : World) : HandSHeadRun.RunEq R (PySem.W.view R.prog [topI]) hk ob 12000 loose w := PySem.W.byRow2 row (P := fun w => HandSHeadRun.RunEq R (PySem.W.view R.prog [topI]) hk ob 12000 loose w) (fun w os => He.comb (run_a_false w os) (run_b_false w os) (run_c_false w os)) (fun w os => He.comb (run_a_true w os) (run_b_true w os) (run_c_true w os)) w
end K12

/-! == of tuples whose items have a == of their own: both answers. -/
namespace GQ
open PySem PySem.SeqAt
open AutoSeq1 (wpAny_loadPart')
open MeetsSeq MeetsSeq2 MeetsSeq3 SeqRoads2
section
variable {prog : Program} {w : World} {A : Around} {R : Result → Shared → Prop}
theorem tuple_eq2 (l b : Addr) (items items2 : Array Value) (n n2 : Nat) (dd dd2 : Option Addr) (sl sl2 : Array (Option Value)) (I : Nat → Shared → Prop) (N : Shared → Prop)
    (turn : ∀ i (h1 : i < items.size) (h2 : i < items2.size) s, I i s → wpAny (model prog w) A.in1 (eqBool items[i] items2[i]) (fun r s' => (r = true ∧ I (i + 1) s') ∨ (r = false ∧ N s')) (fun e s' => R (.error e) s') s)
    (fin : ∀ s, I (min items.size items2.size) s → R (.ok (.ret (.bool (decide (items.size = items2.size))))) s) (fin0 : ∀ s, N s → R (.ok (.ret (.bool false))) s) {s : Shared} (hl1 : s.heap.get? l = some { cls := .type "tuple", dict := dd, data := .seq items n, slots := sl }) (hb1 : s.heap.get? b = some { cls := .type "tuple", dict := dd2, data := .seq items2 n2, slots := sl2 }) (h : I 0 s) :
    wpAny (model prog w) A.in1 (Builtin.«tuple.__eq__» ⟨[.ref l, .ref b], []⟩) (FinOf prog w A R) (fun e s' => R (.error e) s') s := by
  have f2 := AutoSeq1.sub_tuple_tuple
  have hZ : (items.toList.zip items2.toList).length = min items.size items2.size := by simp
  have h0 := h
  obtain ⟨hp, g, d, tk, os⟩ := s
  wp_walk using wpAny_loadPart' hl1, wpAny_loadPart' hb1, wpAny_forIn_list _ (fun rest b s' => b.1 = none ∧ ∃ i, rest = (items.toList.zip items2.toList).drop i ∧ i ≤ min items.size items2.size ∧ I i s') _
  case turn =>
    rintro ⟨y, x⟩ rest b s' ⟨hb', i, hz, hi, hI⟩
    · have hlt : i < (items.toList.zip items2.toList).length := by
        rcases Nat.lt_or_ge i (items.toList.zip items2.toList).length with h' | h'
        · exact h'
        · rw [List.drop_of_length_le h'] at hz; cases hz
      have h12 : i < min items.size items2.size := hZ ▸ hlt
      have h1 : i < items.size := by omega
      have h2 : i < items2.size := by omega
      rw [List.drop_eq_getElem_cons hlt] at hz
      injection hz with hyx hrest
      have hy : y = items[i] := by have := congrArg Prod.fst hyx; simpa using this
      have hx : x = items2[i] := by have := congrArg Prod.snd hyx; simpa using this
      subst hy hx
      refine wpAny_bind (wpAny_mono (turn i h1 h2 s' hI) (fun r s2 q2 => ?_) fun _ _ x => x)
      rcases q2 with ⟨hr, q2⟩ | ⟨hr, q2⟩
      · subst hr
        wp_walk
        exact ⟨rfl, i + 1, hrest, h12, q2⟩
      · subst hr
        wp_walk
        exact fin0 _ q2
  case fin =>
    rintro ⟨b1, b2⟩ s' ⟨hb', i, hz, hi, hI⟩
    · simp only at hb'
      subst hb'
      have hge : min items.size items2.size ≤ i := by
        rcases Nat.lt_or_ge i (items.toList.zip items2.toList).length with h' | h'
        · rw [List.drop_eq_getElem_cons h'] at hz; cases hz
        · exact hZ ▸ h'
      have hi' : i = min items.size items2.size := by omega
      have hR : R (.ok (.ret (.bool (decide (items.size = items2.size))))) s' := fin s' (hi' ▸ hI)
      wp_walk
      have e : (items.size == items2.size) = decide (items.size = items2.size) := rfl
      rw [← e] at hR
      simp only [Builtin.Tuple.tupleCompareSizes]
      exact hR
  case h =>
    exact ⟨rfl, 0, rfl, Nat.zero_le _, h0⟩
end
section
variable {prog : Program} {w : World} {A : Around} {E : Value → Shared → Prop} {s : Shared}
theorem rc_tup2 {l b : Addr} {items items2 : Array Value} {Q : Value → Shared → Prop} (hu : A.units < cLine) (I : Nat → Shared → Prop) (N : Shared → Prop)
    (hl : s.heap.IsTuple l items) (hb : s.heap.IsTuple b items2)
    (turn : ∀ i (h1 : i < items.size) (h2 : i < items2.size) s, I i s → wpAny (model prog w) A.in1 (eqBool items[i] items2[i]) (fun r s' => (r = true ∧ I (i + 1) s') ∨ (r = false ∧ N s')) E s)
    (fin : ∀ s, I (min items.size items2.size) s → Q (.bool (decide (items.size = items2.size))) s) (fin0 : ∀ s, N s → Q (.bool false) s) (h : I 0 s) : wpAny (model prog w) A (richCompare .Eq (.ref l) (.ref b)) Q E s := by
  obtain ⟨⟨cls, dd, data, sl⟩, ho, hc, n, hd⟩ := id hl
  obtain ⟨⟨cls2, dd2, data2, sl2⟩, ho2, hc2, n2, hd2⟩ := id hb
  simp only at hc hd hc2 hd2
  subst hc hd hc2 hd2
  refine wpAny_richCompare_same_room (op := .Eq) ⟨_, ho, rfl⟩ ⟨_, ho2, rfl⟩ F.slot_tuple_eq (call_here F.slot_tuple_eq ⟨_, ho, rfl⟩ F.entry_tuple_eq (F.args_tuple_eq_2 _ _) ?_) hu
  exact tuple_eq2 (R := wants (fun v s' => v ≠ .notImplemented ∧ Q v s') E) l b items items2 n n2 dd dd2 sl sl2 I N turn (fun s' q => ⟨(fun x => nomatch x), fin s' q⟩) (fun s' q => ⟨(fun x => nomatch x), fin0 s' q⟩) ho ho2 h
end
end GQ
namespace L2
open PySem PySem.Spec PyProof.Rows
/-- what == answers for two values, by the abstract heap -/
abbrev Eqw := V → V → Bool → Hp → Prop
def Monw (D : Eqw) : Prop := ∀ x y k H H', Ext H H' → D x y k H → D x y k H'
/-- == gives the answer that D tells, and only makes objects -/
def EqW (X : Cx) (n : Nat) (D : Eqw) : Prop :=
  ∀ (A : Around) (pins : List (Addr × Obj)) (s : Shared) (σ : St) (H : Hp) (x y : V) (k : Bool) (u v : Value), A.guards = some [] → Sub X n A → Inv X pins σ H s → RelV x u → RelV y v → D x y k H →
    wpAny (model X.prog X.w) A (eqBool u v) (fun r s' => r = k ∧ LoopI X pins σ H s') X.xe s
def RcW (X : Cx) (n : Nat) (D : Eqw) : Prop :=
  ∀ (A : Around) (pins : List (Addr × Obj)) (s : Shared) (σ : St) (H : Hp) (x y : V) (k : Bool) (u v : Value), A.guards = some [] → Sub X n A → Inv X pins σ H s → RelV x u → RelV y v → D x y k H →
    wpAny (model X.prog X.w) A (richCompare .Eq u v) (fun r s' => r = .bool k ∧ LoopI X pins σ H s') X.xe s
/-- item by item: all equal, or one at which they differ and all ahead of it equal -/
def Prw (D : Eqw) (xs ys : List V) (k : Bool) (H : Hp) : Prop := ∃ ks : List Bool, ks.length = min xs.length ys.length ∧ k = (ks.all id && decide (xs.length = ys.length)) ∧ ∀ (i : Nat) x y c, xs[i]? = some x → ys[i]? = some y → ks[i]? = some c → D x y c H
def DTupW (K : PySem.W.Frag) (D : Eqw) : Eqw := fun x y k H => ∃ a b xs ys, x = .ref a ∧ y = .ref b ∧ SqT K H a xs ∧ SqT K H b ys ∧ Prw D xs ys k H
section
variable {X : Cx} {n : Nat} {D : Eqw}
theorem all_take {ks : List Bool} {i : Nat} (h : ks[i]? = some false) : ks.all id = false := by
  rw [List.all_eq_false]
  exact ⟨false, List.mem_of_getElem? h, by decide⟩
theorem rcW_tup (hD : Monw D) (h : EqW X n D) : RcW X (n + 1) (DTupW X.K D) := by
  intro A pins s σ H x y k u v hgu sb I rx ry d
  obtain ⟨a, b, xs, ys, rfl, rfl, ha, hb, ks, lk, rfl, at_⟩ := d
  cases rx
  cases ry
  obtain ⟨its, r, e, z⟩ := I.tuple ha
  obtain ⟨its2, r2, e2, z2⟩ := I.tuple hb
  have s1 : its.toArray.size = xs.length := by rw [List.size_toArray, ← r.length]
  have s2 : its2.toArray.size = ys.length := by rw [List.size_toArray, ← r2.length]
  refine GQ.rc_tup2 sb.room.units0 (fun i s' => LoopI X pins σ H s' ∧ (ks.take i).all id = true) (fun s' => LoopI X pins σ H s' ∧ ks.all id = false) e e2 (fun i h1 h2 s' q => ?_) (fun s' q => ?_) (fun s' q => ?_) ⟨⟨H, I, Ext.rfl'⟩, rfl⟩
  · obtain ⟨⟨H1, I1, e1⟩, tk⟩ := q
    have g1 : its[i]? = some its.toArray[i] := by
      have h1' : i < its.length := by simpa using h1
      rw [List.getElem?_eq_getElem h1'] <;> simp
    have g2 : its2[i]? = some its2.toArray[i] := by
      have h2' : i < its2.length := by simpa using h2
      rw [List.getElem?_eq_getElem h2'] <;> simp
    have k1 : i < xs.length := by rw [r.length]; simpa using h1
    have k2 : i < ys.length := by rw [r2.length]; simpa using h2
    have k3 : i < ks.length := by omega
    obtain ⟨u, hu, ru⟩ := r.get (List.getElem?_eq_getElem k1)
    obtain ⟨v, hv, rv⟩ := r2.get (List.getElem?_eq_getElem k2)
    rw [g1] at hu
    rw [g2] at hv
    rw [Option.some.inj hu, Option.some.inj hv]
    refine wpAny_mono (h A.in1 pins s' σ H1 _ _ ks[i] u v hgu sb.in1 I1 ru rv (hD _ _ _ _ _ e1 (at_ i _ _ _ (List.getElem?_eq_getElem k1) (List.getElem?_eq_getElem k2) (List.getElem?_eq_getElem k3)))) (fun c s2 q => ?_) fun _ _ x => x
    obtain ⟨hc, H2, I2, e2⟩ := q
    have gk := List.getElem?_eq_getElem k3
    cases hk : ks[i] with
    | true =>
      rw [hk] at hc
      refine .inl ⟨hc, ⟨H2, I2, e1.trans e2⟩, ?_⟩
      rw [List.take_add_one, gk, hk, Option.toList_some, List.all_append, tk]
      rfl
    | false =>
      rw [hk] at hc gk
      exact .inr ⟨hc, ⟨H2, I2, e1.trans e2⟩, all_take gk⟩
  · obtain ⟨l, tk⟩ := q
    rw [s1, s2, ← lk, List.take_length] at tk
    exact ⟨by rw [tk, s1, s2]; rfl, l⟩
  · obtain ⟨l, tk⟩ := q
    exact ⟨by rw [tk]; rfl, l⟩
/-- an object is one with itself; else by the rich comparison -/
theorem RcW.eqW (h : RcW X n D) (hr : ∀ (pins : List (Addr × Obj)) (s : Shared) (σ : St) x y k H, Inv X pins σ H s → D x y k H → ∃ a b, x = .ref a ∧ y = .ref b ∧ (a = b → k = true)) : EqW X n D := by
  intro A pins s σ H x y k u v hgu sb I rx ry d
  obtain ⟨a, b, rfl, rfl, one⟩ := hr _ _ _ _ _ _ _ I d
  cases rx
  cases ry
  by_cases hab : a = b
  · subst hab
    rw [one rfl]
    exact SeqAt.EqAt.same (A := A) (s := s) (.ref a) X.prog X.w X.xe _ ⟨rfl, H, I, Ext.rfl'⟩
  · refine GQ.eqBool_refG hab (wpAny_mono (h A pins s σ H (.ref a) (.ref b) k _ _ hgu sb I rfl rfl d) (fun r s' q => ?_) fun _ _ x => x)
    obtain ⟨hr', q⟩ := q
    exact ⟨k, hr', rfl, q⟩
/-- flat values -/
def DFlatW : Eqw := fun x y k _ => flatV x = true ∧ flatV y = true ∧ eqV x y = k
theorem eqW_flat : EqW X 0 DFlatW := by
  intro A pins s σ H x y k u v _ sb I rx ry d
  obtain ⟨fx, fy, e⟩ := d
  have q := eqAt_V (A := A) (s := s) rx ry fx fy
  rw [e] at q
  exact q X.prog X.w X.xe _ ⟨rfl, H, I, Ext.rfl'⟩
/-- x == y as an expression -/
def rEqW (D : Eqw) : R2 := fun x y H Q => ∃ k, D x y k H ∧ ∀ H', Ext H H' → Q (.bl k) H'
theorem op_eqW (h : RcW X n D) (hr : Room n X.A) (hgu : X.A.guards = some []) : OpR X (compareOp .Eq) (rEqW D) := by
  intro pins s σ H x y v u Q I rx ry hq
  obtain ⟨k, d, q⟩ := hq
  show wpAny (model X.prog X.w) X.A (richCompare .Eq v u) (EP X pins σ Q) X.xe s
  refine wpAny_mono (h X.A pins s σ H x y k v u hgu ⟨hr, rfl⟩ I rx ry d) (fun r s' z => ?_) fun _ _ x => x
  obtain ⟨hr', H', I', e⟩ := z
  subst hr'
  exact ⟨.bl k, H', I', rfl, q H' e⟩
theorem EqW.mono {m : Nat} (h : EqW X n D) (hn : n ≤ m) : EqW X m D := fun A pins s σ H x y k u v g sb => h A pins s σ H x y k u v g (sb.mono hn)
theorem RcW.mono {m : Nat} (h : RcW X n D) (hn : n ≤ m) : RcW X m D := fun A pins s σ H x y k u v g sb => h A pins s σ H x y k u v g (sb.mono hn)
theorem EqW.or {D' : Eqw} (h : EqW X n D) (h' : EqW X n D') : EqW X n (fun x y k H => D x y k H ∨ D' x y k H) := fun A pins s σ H x y k u v g sb I rx ry d =>
  d.elim (fun d => h A pins s σ H x y k u v g sb I rx ry d) fun d => h' A pins s σ H x y k u v g sb I rx ry d
theorem Monw.or {D' : Eqw} (h : Monw D) (h' : Monw D') : Monw (fun x y k H => D x y k H ∨ D' x y k H) := fun x y k H H' e d => d.elim (fun d => .inl (h x y k H H' e d)) fun d => .inr (h' x y k H H' e d)
theorem monw_flat : Monw DFlatW := fun _ _ _ _ _ _ d => d
theorem monw_tup {K : PySem.W.Frag} (hD : Monw D) : Monw (DTupW K D) := fun x y k H H' e d => by
  obtain ⟨a, b, xs, ys, hx, hy, ha, hb, ks, lk, hk, at_⟩ := d
  exact ⟨a, b, xs, ys, hx, hy, ha.ext e, hb.ext e, ks, lk, hk, fun i x y c h1 h2 h3 => hD _ _ _ _ _ e (at_ i x y c h1 h2 h3)⟩
/-- an instance with a == of its own, at f, and something that does not come first -/
def DInsW (K : PySem.W.Frag) (f : Addr) (sp : Sp) : Eqw := fun x y k H => ∃ a C dx fs t, x = .ref a ∧ H a = some (.ins C dx fs) ∧ OwnM K C "__eq__" f ∧ TyX K H y t ∧ PySem.W.notFirst K C t = true ∧ ∀ (Q : VK) (E : XK), (∀ H', Ext H H' → Q (.bl k) H') → sp [x, y] H Q E
theorem rcW_ins {CX : CXT} {E : XK} {f : Addr} {fd : FuncData} {ps : List Str} {sp : Sp} (F : FnG X.prog X.w X.K X.mg X.base CX n f fd ps sp) (hb : Binds X.K fd ps []) (hx : Passes CX X E) : RcW X n (DInsW X.K f sp) := by
  intro A pins s σ H x y k u v hgu sb I rx ry d
  obtain ⟨a, C, dx, fs, t, rfl, ha, m, ty, nf, h⟩ := d
  obtain ⟨P, kit, hp, _⟩ := kit_of I ry ty
  obtain ⟨mA, J, _⟩ := ins_get I.hok ha
  obtain ⟨od, J, _⟩ := J.look
  obtain ⟨m', hF⟩ := I.fr
  cases rx
  refine PySem.W.cmp_K (op := .Eq) (tb := t) sb.room.units0 hF I.ok.mod.kin J (kit.ty _ _ I.kIn hp) nf m.find m.fn (wpAny_mono (call_at (Q := fun v H' => v = .bl k ∧ Ext H H') (vs := [V.ref a, y]) F hb hx sb hgu I (.cons rfl (.cons ry .nil)) (h _ _ fun H' e => ⟨rfl, e⟩)) (fun v s' z => ?_) fun _ _ y => y)
  obtain ⟨v, H', I', rv, rfl, e⟩ := z
  cases rv
  exact ⟨rfl, H', I', e⟩
end
end L2

/-! A tuple's items are one thing; o.m(..) where the class of o is one of several. -/
namespace L2
open PySem PySem.Spec PyProof.Rows
/-- where a tuple stands, its items are one list -/
def InjT (K : PySem.W.Frag) (H : Hp) : Prop := ∀ (a : Addr) (xs ys : List V), SqT K H a xs → SqT K H a ys → xs = ys
section
variable {X : Cx}
def eInj (K : PySem.W.Frag) (t : TE) : TE := fun σ H Q => InjT K H → t σ H Q
def sInj (K : PySem.W.Frag) (t : TS) : TS := fun D σ H => InjT K H → t D σ H
theorem pe_inj {e : Expr} {t : TE} (h : PE X e t) : PE X e (eInj X.K t) :=
  ⟨fun pins s σ H Q I q => h.run pins s σ H Q I (q fun _ _ _ h1 h2 => I.tuple_inj h1 h2)⟩
theorem pss_inj {st : List Stmt} {t : TS} (h : PSs X st t) : PSs X st (sInj X.K t) :=
  ⟨fun pins s σ H D I q => h.run pins s σ H D I (q fun _ _ _ h1 h2 => I.tuple_inj h1 h2)⟩
/-- o.m(..): the class of o is one of several -/
def tMethI {ι : Type} (C : ι → Addr) (m : Str) (sp : ι → Sp) (dvs : List V) (E : XK) (ta : TE) (t : TA) : TE := fun σ H Q => ta σ H fun x H1 => ∃ i a dx fs, x = .ref a ∧ H1 a = some (.ins (C i) dx fs) ∧ fs.lookup m = none ∧
  t σ H1 fun vs H2 => sp i (x :: (vs ++ dvs)) H2 Q E
section
variable {CX : CXT} {k : Nat} {ι : Type} {f C : ι → Addr} {fd : ι → FuncData} {ps : List Str} {sp : ι → Sp} {dvs : List V} {ds : List Value} {E : XK} {m : Str} {pos apos : Pos} {e o : Expr} {es : List Expr} {ta : TE} {t : TA}
theorem pe_methI {pl : Sem Bool} (he : PE X o ta) (c : ∀ i, Cls X.K (C i)) (hm : ∀ i, Meth X.K (C i) m (f i)) (F : ∀ i, FnOk X.prog X.w X.K X.mg X.base CX k (f i) (fd i) ps (sp i)) (hr : Room k X.A) (hb : ∀ i, Binds X.K (fd i) ps ds) (hd : Vals dvs ds) (hx : Passes CX X E) (ha : PA X (e :: es) t)
    (hst : starEach (e :: es) X.env = (false, eval e X.env) :: starEach es X.env := by rfl) (hpl : (backTo pos (starEach es X.env)).any (·.1) = false := by rfl)
    (ht : eval (.Call (.Attribute o m apos) (e :: es) [] pos) X.env = (do
      let ov ← eval o X.env
      standAt apos.atName
      let (f, first) ← holding [ov] (getMethod ov m pl)
      callWith pos f first (backTo pos (starEach (e :: es) X.env)) (backToKw pos (keywordEach [] X.env))) := by rfl) :
    PE X (.Call (.Attribute o m apos) (e :: es) [] pos) (tMethI C m sp dvs E ta t) := by
  refine ⟨fun pins s σ H Q I h => ?_⟩
  refine PySem.W.methodCall_KW (pl := pl) (thn (he.run pins s σ H _ I h) fun u s1 ⟨x, H1, I1, rx, i, a, dx, fs, ex, ea, l, q⟩ => ?_) ht
  subst ex
  obtain rfl : u = Value.ref a := rx
  refine getmeth_ok I1 ea (c i) (hm i) l ?_
  refine PySem.W.callWith_K (first := [.ref a]) (h₀ := X.base) I.ok.mod.kin (hm i).kp (thn (ha.run pos pins s1 σ H1 _ I1 q) fun us s2 ⟨vs, H2, I2, r, q2⟩ => ⟨I2.kIn, ?_⟩) hst hpl
  exact run_fn (us := .ref a :: us) (vs := .ref a :: vs) (F i) hr (hb i) hd hx I2 (.cons rfl r) q2
theorem pe_methI0 {pl : Sem Bool} (he : PE X o ta) (c : ∀ i, Cls X.K (C i)) (hm : ∀ i, Meth X.K (C i) m (f i)) (F : ∀ i, FnOk X.prog X.w X.K X.mg X.base CX k (f i) (fd i) ps (sp i)) (hr : Room k X.A) (hb : ∀ i, Binds X.K (fd i) ps ds) (hd : Vals dvs ds) (hx : Passes CX X E)
    (ht : eval (.Call (.Attribute o m apos) [] [] pos) X.env = (do
      let ov ← eval o X.env
      standAt apos.atName
      let (f, first) ← holding [ov] (getMethod ov m pl)
      callWith pos f first (backTo pos (starEach [] X.env)) (backToKw pos (keywordEach [] X.env))) := by rfl) :
    PE X (.Call (.Attribute o m apos) [] [] pos) (tMethI C m sp dvs E ta tNil) := by
  refine ⟨fun pins s σ H Q I h => ?_⟩
  refine PySem.W.methodCall_KW (pl := pl) (thn (he.run pins s σ H _ I h) fun u s1 ⟨x, H1, I1, rx, i, a, dx, fs, ex, ea, l, q⟩ => ?_) ht
  subst ex
  obtain rfl : u = Value.ref a := rx
  refine getmeth_ok I1 ea (c i) (hm i) l ?_
  exact PySem.W.callWith_K0 (first := [.ref a]) I1.kIn (hm i).kp (run_fn (us := [.ref a]) (vs := [.ref a]) (F i) hr (hb i) hd hx I1 (.cons rfl .nil) q)
theorem methI {σ : L2.St} {H : Hp} {Q : VK} (h : ta σ H fun x H1 => ∃ i a dx fs, x = .ref a ∧ H1 a = some (.ins (C i) dx fs) ∧ fs.lookup m = none ∧ t σ H1 fun vs H2 => sp i (x :: (vs ++ dvs)) H2 Q E) : tMethI C m sp dvs E ta t σ H Q := h
end
end
end L2
namespace L2
open PySem PySem.Spec PyProof.Rows
section
variable {X : Cx}
theorem cr_range1 : CallR X (.type "range") (fun vs H Q => ∃ j, vs = [V.int j] ∧ ∀ p, H p = none → Q (.ref p) (upd H p (.rng 0 j))) := by
  intro pins s σ H vs us Q I r h
  obtain ⟨j, rfl, q⟩ := h
  obtain ⟨u1, rfl, rj⟩ := vals1 r
  obtain ⟨t, rfl⟩ := rj
  refine call_range_1 ⟨.ref s.heap.objs.size, upd H s.heap.objs.size (.rng 0 j), I.laid (t' := s.toks + 1 + 1) (fun b o e => Heap.get?_push_of_some _ e) (Nat.le_refl _) ?_, rfl, q _ (I.hok.fresh (Nat.le_refl _))⟩
  exact ⟨s.toks, t, s.toks + 1, Heap.get?_push_size _ rfl⟩
theorem call_lenRng : CallR X (.builtin "len") (fun xs H Q => ∃ (p : Addr) (n : Nat), xs = [.ref p] ∧ H p = some (.rng 0 (n : Nat)) ∧ n ≤ 100000 ∧ Q (.int (n : Nat)) H) := by
  intro pins s σ H xs us Q I r h
  obtain ⟨p, n, rfl, e, hn, q⟩ := h
  obtain ⟨u, rfl, rx⟩ := vals1 r
  cases rx
  obtain ⟨t1, t2, t3, ho⟩ := I.hok p _ e
  refine call_len_range (a := 0) (b := (n : Nat)) (c := 1) (n := n) ho ?_ (by omega) ⟨.int _, H, (I.tok _).tok _, ⟨_, rfl⟩, q⟩
  rw [rangeSize_one]
  split <;> omega
end
end L2
namespace L2
open PySem PySem.Spec PyProof.Rows
section
variable {X : Cx} {CX : CXT} {n : Nat} {f : Addr} {fd : FuncData} {ps : List Str} {sp : Sp} {E : XK}
theorem call_atF (F : FnOk X.prog X.w X.K X.mg X.base CX n f fd ps sp) (hb : Binds X.K fd ps []) (hx : Passes CX X E) {A : Around} (sb : Sub X n A) {pins : List (Addr × Obj)} {s : Shared} {σ : St} {H : Hp} {vs : List V} {us : List Value} {Q : VK}
    (I : Inv X pins σ H s) (r : Vals vs us) (h : sp vs H Q E) : wpAny (model X.prog X.w) A (call (.ref f) us) (EP X pins σ Q) X.xe s := by
  have e0 : Env0 X.prog X.w X.K X.mg X.base A X.stack s H := by
    have e := I.env0
    exact ⟨by rw [sb.fr]; exact e.frames, e.mod, e.bs, e.bsz, e.funs, e.frf, e.hok, e.bare⟩
  have hl := F.len _ _ _ _ h
  have bind := hb s us I.kIn (by rw [List.append_nil, ← r.length]; exact hl)
  rw [List.append_nil] at bind
  refine wpAny_call (codeAny_mono (F.run A X.stack s H ⟨us, []⟩ us vs Q E sb.room e0 bind r h) fun r' s2 y => ?_)
  match r', y with
  | .error e, y => exact hx pins σ H s e s2 I y
  | .ok (.ret u), y => exact I.after y
/-- len(x) by an own __len__; the class is one of several -/
def rLenI {ι : Type} (C : ι → Addr) (sp : Sp) (E : XK) : List V → Hp → VK → Prop := fun xs H Q => ∃ i a dx fs, xs = [.ref a] ∧ H a = some (.ins (C i) dx fs) ∧ sp [.ref a] H (fun v H' => ∃ k : Nat, v = .int (k : Nat) ∧ k < 100000 ∧ Q (.int (k : Nat)) H') E
theorem call_lenI {ι : Type} {C : ι → Addr} (F : FnOk X.prog X.w X.K X.mg X.base CX n f fd ps sp) (m : ∀ i, OwnM X.K (C i) "__len__" f) (hb : Binds X.K fd ps []) (hx : Passes CX X E) (hr : Room (n + 1) X.A) : CallR X (.builtin "len") (rLenI C sp E) := by
  intro pins s σ H xs us Q I r h
  obtain ⟨i, a, dx, fs, rfl, ha, h⟩ := h
  obtain ⟨u, rfl, ru⟩ := vals1 r
  cases ru
  obtain ⟨mA, J, _⟩ := ins_get I.hok ha
  obtain ⟨od, J, _⟩ := J.look
  obtain ⟨m', hF⟩ := I.fr
  have sb : Sub X n X.A.in1 := Sub.in1 ⟨hr, rfl⟩
  refine PySem.W.len_K hF I.ok.mod.kin J (m i).find (m i).fn (wpAny_mono (call_atF (vs := [V.ref a]) F hb hx sb I (.cons rfl .nil) h) (fun v s' z => ?_) fun _ _ y => y)
  obtain ⟨v, H', I', rv, k, rfl, hk, q⟩ := z
  obtain ⟨t, rfl⟩ := rv
  exact ⟨⟨by omega, by omega⟩, .int _, H', I'.tok _, ⟨_, rfl⟩, q⟩
theorem isNR {ta : TE} {σ : L2.St} {H : Hp} {Q : VK} (h : ta σ H fun x H1 => Q (.bl (decide (x = .non))) H1) : tIsN ta σ H Q := h
end
end L2

/-! a + b of instances of several own classes that share one __add__; == and != likewise. -/
namespace PySem.W
open Lean Elab Tactic Meta PySem PySem.Calls PyProof.Rows
section
variable {prog : Program} {w : World} {A : Around} {E : Value → Shared → Prop} {s : Shared} {K : Frag} {x C D L f g : Addr} {h₀ : Heap} {m : Str → Option Value} {ox : Obj} {od : Option Obj}
theorem own_binD {op : Operator} {b : Value} {rc rd : Option Value} {Q : Value → Shared → Prop} (F : Fr h₀ L s.heap m) (X₀ : K.In h₀) (I : InstAt s.heap x ox C od) (hb : Looks (model prog w) s.heap (typeOf b) (.ref D)) (ne : C ≠ D) (hc : selfFirst K C = true) (hcD : selfFirst K D = true)
    (hs : findIn K (.ref C) (PySem.dunder op.info.2) = some (some (.ref f))) (hf : isFn K (.ref f) = true) (hr : findIn K (.ref C) (dunderR op.info.2) = some rc) (hp : rc = none ∨ ∃ g : Addr, rc = some (.ref g))
    (hsD : findIn K (.ref D) (PySem.dunder op.info.2) = some (some (.ref g))) (hrD : findIn K (.ref D) (dunderR op.info.2) = some rd) (hpD : rd = none ∨ ∃ g : Addr, rd = some (.ref g)) (hsub : subIn K (.ref D) (.ref C) = some false)
    (h : wpAny (model prog w) A (call (.ref f) [.ref x, b]) (CmpBack Q) E s) : wpAny (model prog w) A (binaryOp op (.ref x) b) Q E s := by
  have X := X₀.keeps F.keep
  obtain ⟨cd, rest, hcd, hm⟩ := ksp_first hc
  obtain ⟨cd2, rest2, hcd2, hm2⟩ := ksp_first hcD
  rcases hi : op.info with ⟨sym, nm'⟩
  rw [hi] at hs hr hsD hrD
  dsimp only at hs hr hsD hrD
  have one := ksp_try X I hs hf h
  obtain ⟨hh, g, d, tt, os⟩ := s
  have L1 : Looks (model prog w) hh (typeOf (.ref x)) (.ref C) := I.type
  have L2 : Looks (model prog w) hh (typeOf b) (.ref D) := hb
  have L3 : Looks (model prog w) hh (fillsNumberSlot (.ref C) nm') true := fills_K X hcd hm hs
  have L4 : Looks (model prog w) hh (fillsNumberSlot (.ref D) nm') true := fills_K X hcd2 hm2 hsD
  have L5 : Looks (model prog w) hh (isSubtype (.ref D) (.ref C)) false := looks_subIn X hsub
  have L6 : Looks (model prog w) hh (numberSlotInPython (.ref C) nm') true := ksp_inPy X hs hr hp
  have L7 : Looks (model prog w) hh (numberSlotInPython (.ref D) nm') true := ksp_inPy X hsD hrD hpD
  have hne : (Value.ref C == Value.ref D) = false := Bool.eq_false_iff.mpr fun q => by
    have := beq_iff_eq.mp q
    injection this with this
    exact ne this
  simp only [binaryOp, hi]
  refine wpAny_holding (wpAny_bind ?_)
  unfold binaryOp1
  refine wpAny_bind (L1.at (wpAny_bind (L2.at (wpAny_bind (L3.at ?_)))))
  simp only [hne, Bool.false_eq_true, if_false]
  ksp_lk
  refine wpAny_mono one (fun r s' hr' => ?_) fun _ _ e => e
  obtain ⟨v, rfl, hq⟩ := hr'
  ksp_lk
  exact hq
end
end PySem.W
namespace L2
open PySem PySem.Spec PyProof.Rows
section
variable {X : Cx} {CX : CXT} {n : Nat} {ι : Type} {C : ι → Addr} {f : Addr} {fd : FuncData} {ps : List Str} {sp : Sp} {E : XK}
/-- what a + b leans on -/
structure AddK (K : PySem.W.Frag) (C : ι → Addr) (f : Addr) : Prop where
  own : ∀ i, OwnM K (C i) "__add__" f
  first : ∀ i, PySem.W.selfFirst K (C i) = true
  nr : ∀ i, PySem.W.findIn K (.ref (C i)) "__radd__" = some none
  sub : ∀ i j, C i ≠ C j → PySem.W.subIn K (.ref (C j)) (.ref (C i)) = some false
  subI : ∀ i, PySem.W.subIn K (.type "int") (.ref (C i)) = some false
  i1 : ∃ fo, PySem.W.findIn K (.type "int") "__add__" = some fo
  i2 : ∃ ro, PySem.W.findIn K (.type "int") "__radd__" = some ro
def rAddI (C : ι → Addr) (sp : Sp) (E : XK) : R2 := fun x y H Q => ∃ i a dx fs, x = .ref a ∧ H a = some (.ins (C i) dx fs) ∧ ((∃ j b dy gs, y = .ref b ∧ H b = some (.ins (C j) dy gs)) ∨ ∃ k : Int, y = .int k) ∧ sp [x, y] H (fun v H' => (∃ b, v = .ref b) ∧ Q v H') E
theorem op_addI (F : FnOk X.prog X.w X.K X.mg X.base CX n f fd ps sp) (m : AddK X.K C f) (hb : Binds X.K fd ps []) (hx : Passes CX X E) (hr : Room n X.A) : OpR X (binaryOp .Add) (rAddI C sp E) := by
  intro pins s σ H x y v u Q I rx ry hq
  obtain ⟨i, a, dx, fs, rfl, ha, hy, h⟩ := hq
  obtain ⟨mA, J, _⟩ := ins_get I.hok ha
  obtain ⟨od, J, _⟩ := J.look
  obtain ⟨m', hF⟩ := I.fr
  have sb : Sub X n X.A := ⟨hr, rfl⟩
  have run : wpAny (model X.prog X.w) X.A (call (.ref f) [.ref a, u]) (PySem.W.CmpBack (EP X pins σ Q)) X.xe s := by
    have rx' : RelV (V.ref a) (Value.ref a) := rfl
    refine wpAny_mono (call_atF (vs := [V.ref a, y]) F hb hx sb I (.cons rx' (.cons ry .nil)) h) (fun v s' z => ?_) fun _ _ y => y
    obtain ⟨v, H', I', rv, ⟨b, rfl⟩, q⟩ := z
    cases rv
    exact ⟨.ref b, H', I', rfl, q⟩
  cases rx
  rcases hy with ⟨j, b, dy, gs, rfl, hb'⟩ | ⟨k, rfl⟩
  · obtain ⟨mB, J2, _⟩ := ins_get I.hok hb'
    obtain ⟨od2, J2, _⟩ := J2.look
    cases ry
    by_cases e : C i = C j
    · exact PySem.W.binop_K hF I.ok.mod.kin J (by rw [e]; exact J2.type) (m.first i) (m.own i).find (m.own i).fn run
    · exact PySem.W.own_binD hF I.ok.mod.kin J J2.type e (m.first i) (m.first j) (m.own i).find (m.own i).fn (m.nr i) (.inl rfl) (m.own j).find (m.nr j) (.inl rfl) (m.sub i j e) run
  · obtain ⟨t, rfl⟩ := ry
    obtain ⟨fo, h1⟩ := m.i1
    obtain ⟨ro, h2⟩ := m.i2
    exact PySem.W.ksp_binT hF I.ok.mod.kin J rfl (m.first i) (m.own i).find (m.own i).fn (m.nr i) (.inl rfl) h1 h2 (m.subI i) run
/-- x == y, x != y by an own ==; the class of x is one of several -/
def rOwnI (K : PySem.W.Frag) (C : ι → Addr) (sp : Sp) (E : XK) (g : Bool → Bool) : R2 := fun x y H Q => ∃ i a dx fs t, x = .ref a ∧ H a = some (.ins (C i) dx fs) ∧ TyX K H y t ∧ PySem.W.notFirst K (C i) t = true ∧ sp [x, y] H (fun v H' => ∃ k, v = .bl k ∧ Q (.bl (g k)) H') E
theorem op_eqIs (F : FnG X.prog X.w X.K X.mg X.base CX n f fd ps sp) (m : ∀ i, OwnM X.K (C i) "__eq__" f) (hb : Binds X.K fd ps []) (hx : Passes CX X E) (hgu : X.A.guards = some []) (hr : Room n X.A) :
    OpR X (compareOp .Eq) (rOwnI X.K C sp E id) := by
  intro pins s σ H x y v u Q I rx ry hq
  obtain ⟨i, a, dx, fs, t, hx', ha, ty, nf, h⟩ := hq
  exact op_eqI F (m i) hb hx hgu hr pins s σ H x y v u Q I rx ry ⟨a, dx, fs, t, hx', ha, ty, nf, h⟩
theorem op_neIs (F : FnG X.prog X.w X.K X.mg X.base CX n f fd ps sp) (m : ∀ i, OwnM X.K (C i) "__eq__" f) (hne : ∀ i, PySem.W.findIn X.K (.ref (C i)) "__ne__" = some (some (.builtin "object.__ne__"))) (hm : ∀ i, PySem.W.mroIn X.K (C i) (.type "object") = some true)
    (hb : Binds X.K fd ps []) (hx : Passes CX X E) (hgu : X.A.guards = some []) (hr : Room (n + 1) X.A) : OpR X (compareOp .NotEq) (rOwnI X.K C sp E not) := by
  intro pins s σ H x y v u Q I rx ry hq
  obtain ⟨i, a, dx, fs, t, hx', ha, ty, nf, h⟩ := hq
  exact op_neI F (m i) (hne i) (hm i) hb hx hgu hr pins s σ H x y v u Q I rx ry ⟨a, dx, fs, t, hx', ha, ty, nf, h⟩
end
end L2

/-! A comprehension with a test, over a list or a tuple, that only makes objects. -/
namespace L2
open PySem PySem.Spec PyProof.Rows
/-- what a comprehension with a test asks -/
def LcT (J : It) (i : Nat) (ii : List Nat) (tt : TT) (te : TE) (σ : L2.St) (H1 : Hp) (Q : VK) : Prop :=
  ∀ D, H1 D = none → ∃ W : Nat → Nat → Hp → Prop, (∃ m, W 0 m (upd H1 D (.lst []))) ∧ ∀ k m H, W k m H →
      (J.stop k H ∧ Q (.ref D) H) ∨ (J.go k H ∧ ∃ Nx : Hp → Prop, (∀ H', Nx H' → ∃ m', m' < m ∧ W (k + 1) m' H') ∧ ∀ x H', J.yld k H x H' → gName i x (wipe σ ii) H' fun σ2 H2 => wipe σ2 ii = wipe σ ii ∧ tt σ2 H2 fun b H3 =>
        if b = true then te σ2 H3 (fun y H4 => ∃ acc, H4 D = some (.lst acc) ∧ acc.length < sizeLine ∧ Nx (upd H4 D (.lst (acc ++ [y])))) else Nx H3)
theorem lcTl {K : PySem.W.Frag} {tl te : TE} {tt : TT} {i : Nat} {ii : List Nat} {σ : L2.St} {H : Hp} {Q : VK} (h : tl σ H fun x H1 => ∃ a, x = .ref a ∧ (∃ xs, SqL K H1 a xs) ∧ LcT (Itl K a) i ii tt te σ H1 Q) : tLc (iList K tl) (gName i) tt te ii σ H Q := h
theorem lcTt {K : PySem.W.Frag} {tl te : TE} {tt : TT} {i : Nat} {ii : List Nat} {σ : L2.St} {H : Hp} {Q : VK} (h : tl σ H fun x H1 => ∃ a, x = .ref a ∧ (∃ xs, SqT K H1 a xs) ∧ LcT (Itt K a) i ii tt te σ H1 Q) : tLc (iTup K tl) (gName i) tt te ii σ H Q := h
theorem filt_le {p : Nat → Bool} (ys : Nat → V) (k : Nat) : (((List.range k).filter p).map ys).length ≤ k := by
  rw [List.length_map]
  exact Nat.le_trans (List.length_filter_le _ _) (by rw [List.length_range]; exact Nat.le_refl _)
theorem lcFl {K : PySem.W.Frag} {a : Addr} {i : Nat} {ii : List Nat} {tt : TT} {te : TE} {σ : L2.St} {H1 : Hp} {Q : VK} {xs : List V} (p : Nat → Bool) (ys : Nat → V) (hi : ii = [i]) (hl : xs.length ≤ 100000) (hx : SqL K H1 a xs)
    (ht : ∀ k x, xs[k]? = some x → ∀ (H2 : Hp) (QB : Bool → Hp → Prop), Same H1 H2 → (∀ H3, Same H2 H3 → QB (p k) H3) → tt ((wipe σ [i]).set i (some x)) H2 QB)
    (he : ∀ k x, xs[k]? = some x → p k = true → ∀ (H2 : Hp) (Q' : VK), Same H1 H2 → (∀ H3, Same H2 H3 → Q' (ys k) H3) → te ((wipe σ [i]).set i (some x)) H2 Q')
    (q : ∀ D (H2 : Hp), H1 D = none → Same H1 H2 → H2 D = some (.lst (((List.range xs.length).filter p).map ys)) → Q (.ref D) H2) : LcT (Itl K a) i ii tt te σ H1 Q := by
  subst hi
  intro D hD
  have st : ∀ {H2 : Hp} {o : HO}, Same H1 H2 → Same H1 (upd H2 D o) := fun s b u e => by rw [upd_ne (ne_of_none e hD)]; exact s b u e
  refine lc_it walk_list (fun k H2 => Same H1 H2 ∧ H2 D = some (.lst (((List.range k).filter p).map ys))) ⟨st (Same.refl _), upd_same⟩ (fun _ _ _ z => hx.ext z.1) (fun k x H H' hk z hy => ?_) fun H2 z => q D H2 hD z.1 z.2
  obtain ⟨rfl, ex⟩ := hy
  obtain ⟨s2, c⟩ := z
  refine ⟨by show List.set (List.set (List.set σ i none) i _) i none = List.set σ i none; rw [List.set_set, List.set_set], ?_⟩
  refine ht k x ex H' _ s2 fun H3 s3 => ?_
  cases hp : p k with
  | false =>
    refine iteF ⟨s2.trans s3, ?_⟩
    rw [List.range_succ, List.filter_append, List.filter_cons_of_neg (by rw [hp]; decide), List.filter_nil, List.append_nil]
    exact s3 _ _ c
  | true =>
    refine iteT (he k x ex hp H3 _ (s2.trans s3) fun H4 s4 => ⟨_, s4 _ _ (s3 _ _ c), ?_, st ((s2.trans s3).trans s4), ?_⟩)
    · exact Nat.lt_of_le_of_lt (filt_le ys k) (Nat.lt_of_lt_of_le (show k < 100001 by omega) (by decide))
    · rw [upd_same, List.range_succ, List.filter_append, List.filter_cons_of_pos hp, List.filter_nil, List.map_append]
      rfl

theorem lcFt {K : PySem.W.Frag} {a : Addr} {i : Nat} {ii : List Nat} {tt : TT} {te : TE} {σ : L2.St} {H1 : Hp} {Q : VK} {xs : List V} (p : Nat → Bool) (ys : Nat → V) (hi : ii = [i]) (hl : xs.length ≤ 100000) (hx : SqT K H1 a xs)
    (ht : ∀ k x, xs[k]? = some x → ∀ (H2 : Hp) (QB : Bool → Hp → Prop), Same H1 H2 → (∀ H3, Same H2 H3 → QB (p k) H3) → tt ((wipe σ [i]).set i (some x)) H2 QB)
    (he : ∀ k x, xs[k]? = some x → p k = true → ∀ (H2 : Hp) (Q' : VK), Same H1 H2 → (∀ H3, Same H2 H3 → Q' (ys k) H3) → te ((wipe σ [i]).set i (some x)) H2 Q')
    (q : ∀ D (H2 : Hp), H1 D = none → Same H1 H2 → H2 D = some (.lst (((List.range xs.length).filter p).map ys)) → Q (.ref D) H2) : LcT (Itt K a) i ii tt te σ H1 Q := by
  subst hi
  intro D hD
  have st : ∀ {H2 : Hp} {o : HO}, Same H1 H2 → Same H1 (upd H2 D o) := fun s b u e => by rw [upd_ne (ne_of_none e hD)]; exact s b u e
  refine lc_it walk_tup (fun k H2 => Same H1 H2 ∧ H2 D = some (.lst (((List.range k).filter p).map ys))) ⟨st (Same.refl _), upd_same⟩ (fun _ _ _ z => hx.ext z.1) (fun k x H H' hk z hy => ?_) fun H2 z => q D H2 hD z.1 z.2
  obtain ⟨rfl, ex⟩ := hy
  obtain ⟨s2, c⟩ := z
  refine ⟨by show List.set (List.set (List.set σ i none) i _) i none = List.set σ i none; rw [List.set_set, List.set_set], ?_⟩
  refine ht k x ex H' _ s2 fun H3 s3 => ?_
  cases hp : p k with
  | false =>
    refine iteF ⟨s2.trans s3, ?_⟩
    rw [List.range_succ, List.filter_append, List.filter_cons_of_neg (by rw [hp]; decide), List.filter_nil, List.append_nil]
    exact s3 _ _ c
  | true =>
    refine iteT (he k x ex hp H3 _ (s2.trans s3) fun H4 s4 => ⟨_, s4 _ _ (s3 _ _ c), ?_, st ((s2.trans s3).trans s4), ?_⟩)
    · exact Nat.lt_of_le_of_lt (filt_le ys k) (Nat.lt_of_lt_of_le (show k < 100001 by omega) (by decide))
    · rw [upd_same, List.range_succ, List.filter_append, List.filter_cons_of_pos hp, List.filter_nil, List.map_append]
      rfl

end L2

/-! A comprehension, whatever its element does, by what holds of the list that is made. -/
namespace L2
open PySem PySem.Spec PyProof.Rows
theorem lcGLi {K:PySem.W.Frag} {a:Addr} {xs:List V} {i : Nat} {ii : List Nat} {te : TE} {σ : L2.St} {H1 : Hp} {Q : VK} (J : Addr → Nat → List V → Hp → Prop) (hi : ii = [i]) (hx:SqL K H1 a xs) (hG:∀ D k acc H, J D k acc H → SqL K H a xs) (hl : xs.length ≤ 100000)
    (init : ∀ D, H1 D = none → J D 0 [] (upd H1 D (.lst [])))
    (ht : ∀ D k x acc (H2 : Hp) (Q' : VK), H1 D = none → k < xs.length → xs[k]? = some x → acc.length = k → H2 D = some (.lst acc) → J D k acc H2 → (∀ v (H3 : Hp), H3 D = some (.lst acc) → J D (k + 1) (acc ++ [v]) (upd H3 D (.lst (acc ++ [v]))) → Q' v H3) → te ((wipe σ [i]).set i (some x)) H2 Q')
    (q : ∀ D acc (H2 : Hp), H1 D = none → acc.length = xs.length → J D (xs.length) acc H2 → H2 D = some (.lst acc) → Q (.ref D) H2) : LcJ (Itl K a) i ii te σ H1 Q := by
  subst hi
  intro D hD
  refine lc_it walk_list (fun k H2 => ∃ acc : List V, acc.length = k ∧ H2 D = some (.lst acc) ∧ J D k acc H2) ⟨[], rfl, upd_same, init D hD⟩ (fun k H hk z => by obtain ⟨acc, _, _, j⟩ := z; exact hG _ _ _ _ j) (fun k x H H' hk p hy => ?_) fun H2 p => ?_
  · obtain ⟨rfl, ex⟩ := hy
    obtain ⟨acc, al, c, j⟩ := p
    refine ⟨by show List.set (List.set (List.set σ i none) i _) i none = List.set σ i none; rw [List.set_set, List.set_set], iteT (B := ∃ acc : List V, acc.length = k + 1 ∧ H' D = some (.lst acc) ∧ J D (k + 1) acc H') ?_⟩
    refine ht D k _ acc H' _ hD hk ex al c j fun v H3 c3 j3 => ⟨acc, c3, ?_, acc ++ [v], by rw [List.length_append, al]; rfl, upd_same, j3⟩
    rw [al]
    exact Nat.lt_of_lt_of_le (show k < 100001 by omega) (by decide)
  · obtain ⟨acc, al, c, j⟩ := p
    exact q D acc H2 hD al j c

theorem lcGRa {lo:Int} {n:Nat} {i : Nat} {ii : List Nat} {te : TE} {σ : L2.St} {H1 : Hp} {Q : VK} (J : Addr → Nat → List V → Hp → Prop) (hi : ii = [i]) (_h0:True) (hG:True) (hl : n ≤ 100000)
    (init : ∀ D, H1 D = none → J D 0 [] (upd H1 D (.lst [])))
    (ht : ∀ D k x acc (H2 : Hp) (Q' : VK), H1 D = none → k < n → x = .int (lo + (k:Int)) → acc.length = k → H2 D = some (.lst acc) → J D k acc H2 → (∀ v (H3 : Hp), H3 D = some (.lst acc) → J D (k + 1) (acc ++ [v]) (upd H3 D (.lst (acc ++ [v]))) → Q' v H3) → te ((wipe σ [i]).set i (some x)) H2 Q')
    (q : ∀ D acc (H2 : Hp), H1 D = none → acc.length = n → J D (n) acc H2 → H2 D = some (.lst acc) → Q (.ref D) H2) : LcJ (Itr lo n) i ii te σ H1 Q := by
  subst hi
  intro D hD
  refine lc_it walk_range (fun k H2 => ∃ acc : List V, acc.length = k ∧ H2 D = some (.lst acc) ∧ J D k acc H2) ⟨[], rfl, upd_same, init D hD⟩ (fun k H hk z => by obtain ⟨acc, _, _, j⟩ := z; exact trivial) (fun k x H H' hk p hy => ?_) fun H2 p => ?_
  · obtain ⟨rfl, rfl⟩ := hy
    obtain ⟨acc, al, c, j⟩ := p
    refine ⟨by show List.set (List.set (List.set σ i none) i _) i none = List.set σ i none; rw [List.set_set, List.set_set], iteT (B := ∃ acc : List V, acc.length = k + 1 ∧ H' D = some (.lst acc) ∧ J D (k + 1) acc H') ?_⟩
    refine ht D k _ acc H' _ hD hk rfl al c j fun v H3 c3 j3 => ⟨acc, c3, ?_, acc ++ [v], by rw [List.length_append, al]; rfl, upd_same, j3⟩
    rw [al]
    exact Nat.lt_of_lt_of_le (show k < 100001 by omega) (by decide)
  · obtain ⟨acc, al, c, j⟩ := p
    exact q D acc H2 hD al j c

end L2

/-! Lists and tuples of texts as data. -/
namespace L2
open PySem PySem.Spec PyProof.Rows
theorem dpa_strs {K : PySem.W.Frag} {H : Hp} : ∀ l : List Str, DpAll K H (l.map V.str) (l.map PyData.str)
  | [] => .nil
  | x :: l => .cons (.str x) (dpa_strs l)
theorem dds_strs {K : PySem.W.Frag} {H : Hp} : ∀ l : List Str, Dds K H (l.map V.str) (l.map PyData.str)
  | [] => .nil
  | x :: l => .cons (.str x) (dds_strs l)
theorem eqva_strs : ∀ l m : List Str, PyData.eqvAll (l.map .str) (m.map .str) = decide (l = m)
  | [], [] => by
    rw [decide_eq_true rfl]
    simp only [List.map_nil, PyData.eqvAll]
  | [], _ :: _ => by
    rw [decide_eq_false (fun z => by cases z)]
    simp only [List.map_nil, List.map_cons, PyData.eqvAll]
  | _ :: _, [] => by
    rw [decide_eq_false (fun z => by cases z)]
    simp only [List.map_nil, List.map_cons, PyData.eqvAll]
  | x :: l, y :: m => by
    simp only [List.map_cons, PyData.eqvAll, PyData.eqv]
    rw [eqva_strs l m]
    by_cases h : x = y
    · subst h
      by_cases g : l = m
      · subst g; simp
      · rw [decide_eq_false g, Bool.and_false, decide_eq_false (fun z => g (List.cons.inj z).2)]
    · rw [beq_false_of_ne h, Bool.false_and, decide_eq_false (fun z => h (List.cons.inj z).1)]
theorem eqv_tups (l m : List Str) : PyData.eqv (.tuple (l.map .str)) (.tuple (m.map .str)) = decide (l = m) := by rw [PyData.eqv, eqva_strs]
theorem eqv_lists (l m : List Str) : PyData.eqv (.list (l.map .str)) (.list (m.map .str)) = decide (l = m) := by rw [PyData.eqv, eqva_strs]
theorem depth_strs : ∀ l : List Str, PyData.depthAll (l.map .str) = 0
  | [] => by simp only [List.map_nil, PyData.depthAll]
  | x :: l => by simp only [List.map_cons, PyData.depthAll, PyData.depth, depth_strs l, Nat.max_self]
theorem canlay_strs : ∀ l : List Str, (∀ x ∈ l, PyData.strOk x = true) → PyData.canLayAll0 (l.map .str) = true
  | [], _ => by simp only [List.map_nil, PyData.canLayAll0]
  | x :: l, h => by
    simp only [List.map_cons, PyData.canLayAll0, PyData.canLay0]
    rw [h x List.mem_cons_self, canlay_strs l fun y hy => h y (List.mem_cons_of_mem _ hy)]
    rfl
theorem showable_strs : ∀ l : List Str, PyData.showableAll (l.map .str) = true
  | [] => by simp only [List.map_nil, PyData.showableAll]
  | x :: l => by simp only [List.map_cons, PyData.showableAll, PyData.showable, showable_strs l, Bool.and_self]
theorem shaped_tup {l : List Str} (h : ∀ x ∈ l, PyData.strOk x = true) : SeqAt.shaped (.tuple (l.map .str)) = true := by
  unfold SeqAt.shaped
  rw [PyData.canLay0, canlay_strs l h, PyData.depth, depth_strs]
  rfl
theorem shaped_lst {l : List Str} (h : ∀ x ∈ l, PyData.strOk x = true) : SeqAt.shaped (.list (l.map .str)) = true := by
  unfold SeqAt.shaped
  rw [PyData.canLay0, canlay_strs l h, PyData.depth, depth_strs]
  rfl
end L2

namespace K12
open PySem PySem.Spec PyProof.Rows L2
local macro_rules | `(tactic| walk_at "rd1") => `(tactic| first
  | (with_reducible refine Rd.seq ?_) | (with_reducible refine Rd.asg ?_) | (with_reducible refine Rd.ret ?_) | (with_reducible refine Rd.nxt ?_) | (with_reducible refine Rd.ifS ?_)
  | (with_reducible refine Rd.op ?_) | (with_reducible refine Rd.un ?_) | (with_reducible refine Rd.cb ?_) | (with_reducible refine Rd.cons ?_) | (with_reducible refine Rd.nil ?_) | (with_reducible refine Rd.ifx ?_)
  | (with_reducible refine Rd.test ?_) | (with_reducible refine Rd.testB ?_) | (with_reducible refine Rd.notT ?_) | (with_reducible refine Rd.isB ?_) | (with_reducible refine Rd.lst ?_) | (with_reducible refine Rd.tup ?_)
  | (with_reducible refine Rd.andV ?_) | (with_reducible refine Rd.orV ?_) | (with_reducible refine Rd.notV ?_) | (with_reducible refine Rd.andT ?_) | (with_reducible refine Rd.orT ?_) | (with_reducible refine Rd.chain ?_)
  | (with_reducible refine Rd.m0 ?_) | (with_reducible refine Rd.m1 ?_) | (with_reducible refine Rd.bm0 ?_) | (with_reducible refine Rd.bm ?_) | (with_reducible refine Rd.sl ?_) | (with_reducible refine Rd.part ?_) | (with_reducible refine Rd.part0 ?_) | (with_reducible refine Rd.isI ?_)
  | (with_reducible refine Rd.fmt ?_) | (with_reducible refine Rd.fmtRD ?_) | (with_reducible refine Rd.meth ?_) | (with_reducible refine Rd.make ?_) | (with_reducible refine Rd.prop ?_) | (with_reducible refine Rd.js ?_) | (with_reducible refine Rd.js0 ?_) | (with_reducible refine Rd.par ?_) | (with_reducible refine Rd.star ?_) | (with_reducible refine lcR1 ?_) | (with_reducible refine lcR2 ?_) | (with_reducible refine Rd.fld ?_) | (with_reducible refine Rd.sfld ?_) | (with_reducible refine Rd.expr ?_) | (with_reducible refine L2.isNR ?_) | (with_reducible refine L2.methI ?_) | (with_reducible refine Rd.forZ ?_)
  | (with_reducible refine Rd.forEA ?_) | (with_reducible refine Rd.forR1 ?_) | (with_reducible refine Rd.forR2 ?_) | (with_reducible refine Rd.forL ?_) | (with_reducible refine Rd.forT ?_)
  | (with_reducible refine Rd.call ?_) | (with_reducible refine Rd.asgG ?_) | (with_reducible refine Rd.gNm ?_) | (with_reducible refine Rd.gSb ?_) | (with_reducible refine Rd.gC ?_) | (with_reducible refine Rd.gN ?_)
  | ((with_reducible refine' Rd.var ?hv ?_); (case hv => exact rfl)) | (with_reducible refine Rd.c ?_) | (with_reducible refine Rd.i0 ?_) | (with_reducible refine Rd.neg ?_)
  | ((with_reducible refine' Rd.iC ?hc ?_); (case hc => first | (show (0 : Int) < _; decide) | exact ⟨by decide, by decide⟩ | exact ⟨by decide, by decide, by decide⟩ | exact .inl ⟨by decide, by decide⟩ | exact .inr ⟨by decide, by decide⟩ | exact .inl ⟨by omega, by omega⟩ | (show (0 : Int) < _; omega) | exact ⟨by omega, by omega⟩))
  | ((with_reducible refine' Rd.eqS ?hc ?_); (case hc => rfl)) | ((with_reducible refine' Rd.neS ?hc ?_); (case hc => rfl)))
local macro_rules | `(tactic| walk_at "rd") => `(tactic| repeat walk_at "rd1")
abbrev sInitN : Stmt := sMeth iNumber 0
def spNum (K : PySem.W.Frag) (C : Addr) : Sp := fun args H Q _ => ∃ (x dx : Addr) (n : Nat), args = [.ref x, .int (n : Nat)] ∧ H x = some (.ins C dx []) ∧ n ≤ 8 ∧
  ∀ H' g p, But x H H' → H' x = some (.ins C dx (baseFs "Number" g p 1 0 ++ ([("value", .int (n : Nat))] : List (Str × V)))) → SqT K H' g [.int (n : Nat)] → SqT K H' p [] → Q .non H'
def spBetween : Sp := fun vs H Q _ => ∃ v lo hi : Int, vs = [.int v, .int lo, .int hi] ∧ Q (.bl (decide (lo ≤ v) && decide (v ≤ hi))) H
abbrev sBetween : Stmt := topA iis_between
section
variable {P : Program} {w : World} {K : PySem.W.Frag} {mg : Str → Option Value} {base : Heap} {C f fB fI cc : Addr} {fd fdB fdI : FuncData}
theorem scNum : FnScope ["self", "value"] ["self", "value"] (defScope sInitN) := ⟨rfl, rfl, rfl, by decide +kernel, rfl, by decide +kernel, by decide +kernel⟩
theorem ok_num (F : FunD K "__init__" "Number.__init__" (defArgs sInitN) (defBody sInitN) (defScope sInitN) [] [] f fd) (fc : Fc K C) (T : Gf mg)
    (FI : FunD K "__init__" "Formula.__init__" (defArgs sInitF) (defBody sInitF) (defScope sInitF) [] [] fI fdI) {CS : Addr} (gS : mg "Formula" = some (.ref CS)) (cS : CFn K CS "__init__" fI) (GI : FnOk P w K mg base CX0 1 fI fdI ["self", "name", "given", "parts"] (spInitF K))
    (FB : FnP K "is_between" sBetween fB fdB) (GB : FnOk P w K mg base CX0 1 fB fdB ["value", "low", "high"] spBetween) (gB : mg "is_between" = some (.ref fB)) : FnOk P w K mg base CX0 2 f fd ["self", "value"] (spNum K C) := by
  have bI : Binds K fdI ["self", "name", "given", "parts"] [] := FI.bindsN fun _ _ _ _ _ _ us hl => match us, hl with | [_, _, _, _], _ => rfl
  have bB : Binds K fdB ["value", "low", "high"] [] := FB.bindsN fun _ _ _ _ _ _ us hl => match us, hl with | [_, _, _], _ => rfl
  obtain ⟨t3, gG⟩ := T.gn
  refine F.ok scNum (fun vs H Q E h => ?_) (fun cdv A outer s H vs Q E hr h => ?_)
  · obtain ⟨x, dx, n, rfl, _⟩ := h
    rfl
  · obtain ⟨x, dx, n, rfl, hx, hn, q⟩ := h
    refine ⟨_, PSs.nox (pss_cons (ps_if (pt_not (pt_val (pe_call GB hr rfl gB FB.kp bB .nil pass0 (pa_cons (pv 1) (pa_cons pe_int (pa_cons (pe_glob rfl gG (v := .int 8) ⟨_, rfl⟩) pa_nil)))))) (pss_one ps_never) pss_nil)
      (pss_cons (ps_expr (pe_cfn (pe_glob rfl gS (v := .ref CS) rfl) cS GI hr FI.kp bI pass0 (pa_cons (pv 0) (pa_cons pe_str (pa_cons (pe_tup (pa_cons (pv 1) pa_nil)) (pa_cons (pe_tup pa_nil) pa_nil))))))
      (pss_one (ps_fld (pv 0) (pv 1) rfl)))), ?_⟩
    walk_at "rd"
    refine ⟨_, _, _, rfl, ?_⟩
    rw [decide_eq_true (show (0 : Int) ≤ (n : Nat) by omega), decide_eq_true (show ((n : Nat) : Int) ≤ 8 by omega)]
    walk_at "rd"
    refine iteF ?_
    walk_at "rd"
    refine Rd.cfn ?_
    walk_at "rd"
    refine ⟨Rd.small (by show 1 ≤ 100000; decide), fun g n1 => ?_⟩
    have s1 := same_new (o := HO.tup ([V.int (n : Nat)])) n1
    have t1 := upd_same (H := H) (a := g) (o := HO.tup ([V.int (n : Nat)]))
    generalize upd H g (HO.tup ([V.int (n : Nat)])) = H1 at s1 t1 ⊢
    walk_at "rd"
    refine ⟨Rd.small (by show 0 ≤ 100000; decide), fun p n2 => ?_⟩
    have s2 := same_new (o := HO.tup ([])) n2
    have t2 := upd_same (H := H1) (a := p) (o := HO.tup ([]))
    generalize upd H1 p (HO.tup ([])) = H2 at s2 t2 ⊢
    walk_at "rd"
    have x2 := s2 _ _ (s1 _ _ hx)
    refine ⟨x, C, dx, g, p, _, _, [], rfl, x2, fc, SqT.of t2, ⟨rfl, fun i v h => by simp at h⟩, by decide, by decide, fun H3 b3 x3 => ?_⟩
    walk_at "rd"
    refine ⟨x, C, dx, _, rfl, x3, fc.cl, fc.no "value", (by show 6 < 1000; decide), ?_⟩
    have x4 := upd_same (H := H3) (a := x) (o := HO.ins C dx (putF "value" (.int (n : Nat)) (baseFs "Number" g p 1 0)))
    have b4 := But.set (p := x) (H := H3) (o := HO.ins C dx (putF "value" (.int (n : Nat)) (baseFs "Number" g p 1 0)))
    have eF : fmN [] = 1 ∧ fmD [] = 0 := ⟨rfl, rfl⟩
    rw [eF.1, eF.2]
    generalize upd H3 x (HO.ins C dx (putF "value" (.int (n : Nat)) (baseFs "Number" g p 1 0))) = H4 at x4 b4 ⊢
    have ne : ∀ {o : HO} {b : Addr}, H2 b = some o → (∀ C dx fs, o ≠ .ins C dx fs) → b ≠ x := fun e n z => by
      rw [z, x2] at e
      cases e
      exact n _ _ _ rfl
    have g2 := s2 _ _ t1
    have g4 := b4 _ _ (ne g2 fun _ _ _ z => by cases z) (b3 _ _ (ne g2 fun _ _ _ z => by cases z) g2)
    have p4 := b4 _ _ (ne t2 fun _ _ _ z => by cases z) (b3 _ _ (ne t2 fun _ _ _ z => by cases z) t2)
    exact q H4 g p (fun b o hb e => b4 b o hb (b3 b o hb (s2 _ _ (s1 _ _ e)))) x4 (SqT.of g4) (SqT.of p4)
end
end K12

namespace K12
open PySem PySem.Spec PyProof.Rows L2
/-! ### formulas as data -/
inductive Fm where
  | num (n : Nat)
  | ref (w : Nat) (c : Str)
  | pair (o : Nat) (l r : Fm)
  | cho (t : Fm) (s : List Nat) (a b : Fm)
/-- how many nodes, how deep -/
def Fm.q : Fm → Nat × Nat
  | .num _ => (fmN [], fmD [])
  | .ref _ _ => (fmN [], fmD [])
  | .pair _ l r => (fmN [l.q, r.q], fmD [l.q, r.q])
  | .cho t _ a b => (fmN [t.q, a.q, b.q], fmD [t.q, a.q, b.q])
def refName : Nat → Str
  | 0 => "Here"
  | 1 => "Up"
  | _ => "Down"
def refWhere : Nat → Str
  | 0 => "here"
  | 1 => "up"
  | _ => "down"
def pairName : Nat → Str
  | 0 => "Plus"
  | 1 => "Least"
  | 2 => "Most"
  | _ => "Same"
/-- where the classes are -/
structure Cs where
  num : Addr
  ref : Nat → Addr
  pair : Nat → Addr
  cho : Addr
/-- what every formula has: its name, given values, parts, number of nodes, depth; the nodes in their sequence, once asked -/
structure Bs (H : Hp) (fs : List (Str × V)) (name : Str) (g p : Addr) (q : Nat × Nat) (l : List V) : Prop where
  nm : fs.lookup ("_called" : Str) = some (.str name)
  gv : fs.lookup ("_given" : Str) = some (.ref g)
  pt : fs.lookup ("_parts" : Str) = some (.ref p)
  mn : fs.lookup ("_many" : Str) = some (.int (q.1 : Nat))
  dp : fs.lookup ("depth" : Str) = some (.int (q.2 : Nat))
  sq : ∃ z, fs.lookup ("_sequence" : Str) = some z ∧ (z = .non ∨ ∃ b, z = .ref b ∧ H b = some (.lst l))
  few : fs.length < 900
  ks : (fs.all fun p => fldNames.contains p.1) = true
def natV (n : Nat) : V := .int (n : Nat)
/-- at v stands the formula f; its nodes are l -/
def FmAt (K : PySem.W.Frag) (c : Cs) (H : Hp) : Fm → V → List V → Prop
  | .num n, v, l => l = [v] ∧ n ≤ 8 ∧ ∃ a dx fs g p, v = .ref a ∧ H a = some (.ins c.num dx fs) ∧ Bs H fs "Number" g p (Fm.num n).q l ∧ SqT K H g [natV n] ∧ SqT K H p [] ∧ fs.lookup ("value" : Str) = some (natV n)
  | .ref w x, v, l => l = [v] ∧ ∃ a dx fs g p, v = .ref a ∧ H a = some (.ins (c.ref w) dx fs) ∧ Bs H fs (refName w) g p (Fm.ref w x).q l ∧ SqT K H g [.str x] ∧ SqT K H p [] ∧ fs.lookup ("where" : Str) = some (.str (refWhere w)) ∧ fs.lookup ("column" : Str) = some (.str x)
  | .pair o f1 f2, v, l => ∃ v1 l1 v2 l2, l = v :: (l1 ++ l2) ∧ FmAt K c H f1 v1 l1 ∧ FmAt K c H f2 v2 l2 ∧ ∃ a dx fs g p, v = .ref a ∧ H a = some (.ins (c.pair o) dx fs) ∧ Bs H fs (pairName o) g p (Fm.pair o f1 f2).q l ∧ SqT K H g [v1, v2] ∧ SqT K H p [v1, v2] ∧
      fs.lookup ("left" : Str) = some v1 ∧ fs.lookup ("right" : Str) = some v2
  | .cho f1 s f2 f3, v, l => ∃ v1 l1 v2 l2 v3 l3, l = v :: (l1 ++ (l2 ++ l3)) ∧ FmAt K c H f1 v1 l1 ∧ FmAt K c H f2 v2 l2 ∧ FmAt K c H f3 v3 l3 ∧ ∃ a dx fs g p t, v = .ref a ∧ H a = some (.ins c.cho dx fs) ∧ Bs H fs "Choice" g p (Fm.cho f1 s f2 f3).q l ∧
      SqT K H g [v1, .ref t, v2, v3] ∧ SqT K H p [v1, v2, v3] ∧ SqT K H t (s.map natV) ∧ fs.lookup ("test" : Str) = some v1 ∧ fs.lookup ("chosen" : Str) = some (.ref t) ∧ fs.lookup ("then" : Str) = some v2 ∧ fs.lookup ("other" : Str) = some v3
/-! ### what may change without a formula's change: an object that has no attributes yet, a pot -/
def Bad : HO → Prop
  | .ins _ _ fs => fs = []
  | .lst l => ∃ x y : Int, l = [.int x, .int y]
  | _ => False
def Kp (H H' : Hp) : Prop := ∀ b o, H b = some o → ¬ Bad o → H' b = some o
theorem Kp.refl {H : Hp} : Kp H H := fun _ _ e _ => e
theorem Kp.trans {H H1 H2 : Hp} (a : Kp H H1) (b : Kp H1 H2) : Kp H H2 := fun c o e n => b c o (a c o e n) n
theorem kp_same {H H' : Hp} (s : Same H H') : Kp H H' := fun b o e _ => s b o e
theorem kp_new {H H' : Hp} {x C dx : Addr} (h : H x = some (.ins C dx [])) (b : But x H H') : Kp H H' := fun c o e n => b c o (fun z => by
  rw [z, h] at e
  cases e
  exact n rfl) e
theorem kp_pot {H H' : Hp} {p : Addr} (h : PotAt H p) (b : But p H H') : Kp H H' := fun c o e n => b c o (fun z => by
  obtain ⟨x, y, h, _⟩ := h
  rw [z, h] at e
  cases e
  exact n ⟨x, y, rfl⟩) e
theorem sqt_kp {K : PySem.W.Frag} {H H' : Hp} {a : Addr} {l : List V} (k : Kp H H') (h : SqT K H a l) : SqT K H' a l := by
  rcases h with (h | ⟨o, h⟩) | h
  · exact .inl (.inl (k _ _ h id))
  · exact .inl (.inr ⟨o, k _ _ h id⟩)
  · exact .inr h
theorem Bs.kp {H H' : Hp} {fs : List (Str × V)} {name : Str} {g p a : Addr} {q : Nat × Nat} {r : List V} (k : Kp H H') (h : Bs H fs name g p q (.ref a :: r)) : Bs H' fs name g p q (.ref a :: r) := by
  refine ⟨h.nm, h.gv, h.pt, h.mn, h.dp, ?_, h.few, h.ks⟩
  obtain ⟨z, e, w⟩ := h.sq
  refine ⟨z, e, w.imp id fun ⟨b, e, w⟩ => ⟨b, e, k _ _ w ?_⟩⟩
  rintro ⟨x, y, e⟩
  cases e
theorem Bs.ne {H : Hp} {fs : List (Str × V)} {name : Str} {g p : Addr} {q : Nat × Nat} {l : List V} {C dx : Addr} (h : Bs H fs name g p q l) : ¬ Bad (.ins C dx fs) := fun e => by
  have e : fs = [] := e
  have := h.nm
  rw [e] at this
  cases this
theorem lookup_none {m : Str} (hm : fldNames.contains m = false) : ∀ {fs : List (Str × V)}, (fs.all fun p => fldNames.contains p.1) = true → fs.lookup m = none
  | [], _ => rfl
  | (g, x) :: r, h => by
    rw [List.all_cons, Bool.and_eq_true] at h
    obtain ⟨h1, h2⟩ := h
    have ne : (m == g) = false := beq_eq_false_iff_ne.mpr fun e => by
      rw [e] at hm
      rw [hm] at h1
      cases h1
    show (match m == g with | true => some x | false => r.lookup m) = none
    rw [ne]
    exact lookup_none hm h2
theorem Bs.meth {H : Hp} {fs : List (Str × V)} {name : Str} {g p : Addr} {q : Nat × Nat} {l : List V} (h : Bs H fs name g p q l) (m : Str) (hm : fldNames.contains m = false := by decide +kernel) : fs.lookup m = none := lookup_none hm h.ks
theorem FmAt.kp {K : PySem.W.Frag} {c : Cs} {H H' : Hp} (k : Kp H H') : ∀ {f : Fm} {v : V} {l : List V}, FmAt K c H f v l → FmAt K c H' f v l
  | .num n, v, l, h => by
    obtain ⟨rfl, hn, a, dx, fs, g, p, rfl, h1, h2, h3, h4, h5⟩ := h
    exact ⟨rfl, hn, a, dx, fs, g, p, rfl, k _ _ h1 h2.ne, h2.kp k, sqt_kp k h3, sqt_kp k h4, h5⟩
  | .ref w x, v, l, h => by
    obtain ⟨rfl, a, dx, fs, g, p, rfl, h1, h2, h3, h4, h5⟩ := h
    exact ⟨rfl, a, dx, fs, g, p, rfl, k _ _ h1 h2.ne, h2.kp k, sqt_kp k h3, sqt_kp k h4, h5⟩
  | .pair o f1 f2, v, l, h => by
    obtain ⟨v1, l1, v2, l2, rfl, t1, t2, a, dx, fs, g, p, rfl, h1, h2, h3, h4, h5⟩ := h
    exact ⟨v1, l1, v2, l2, rfl, FmAt.kp k t1, FmAt.kp k t2, a, dx, fs, g, p, rfl, k _ _ h1 h2.ne, h2.kp k, sqt_kp k h3, sqt_kp k h4, h5⟩
  | .cho f1 s f2 f3, v, l, h => by
    obtain ⟨v1, l1, v2, l2, v3, l3, rfl, t1, t2, t3, a, dx, fs, g, p, t, rfl, h1, h2, h3, h4, h5, h6⟩ := h
    exact ⟨v1, l1, v2, l2, v3, l3, rfl, FmAt.kp k t1, FmAt.kp k t2, FmAt.kp k t3, a, dx, fs, g, p, t, rfl, k _ _ h1 h2.ne, h2.kp k, sqt_kp k h3, sqt_kp k h4, sqt_kp k h5, h6⟩
/-- what is known of the classes -/
structure Cl (K : PySem.W.Frag) (c : Cs) : Prop where
  num : Fc K c.num
  ref : ∀ w, Fc K (c.ref w)
  pair : ∀ o, Fc K (c.pair o)
  cho : Fc K c.cho
def clsOf (c : Cs) : Fm → Addr
  | .num _ => c.num
  | .ref w _ => c.ref w
  | .pair o _ _ => c.pair o
  | .cho .. => c.cho
def nameOf : Fm → Str
  | .num _ => "Number"
  | .ref w _ => refName w
  | .pair o _ _ => pairName o
  | .cho .. => "Choice"
theorem Cl.at_ {K : PySem.W.Frag} {c : Cs} (T : Cl K c) (f : Fm) : Fc K (clsOf c f) := by
  cases f
  · exact T.num
  · exact T.ref _
  · exact T.pair _
  · exact T.cho
/-- what all have -/
theorem FmAt.obj {K : PySem.W.Frag} {c : Cs} {H : Hp} {f : Fm} {v : V} {l : List V} (h : FmAt K c H f v l) : ∃ a dx fs g p r, v = .ref a ∧ l = v :: r ∧ H a = some (.ins (clsOf c f) dx fs) ∧ Bs H fs (nameOf f) g p f.q l := by
  cases f with
  | num n =>
    obtain ⟨rfl, hn, a, dx, fs, g, p, rfl, h1, h2, _⟩ := h
    exact ⟨a, dx, fs, g, p, _, rfl, rfl, h1, h2⟩
  | ref w x =>
    obtain ⟨rfl, a, dx, fs, g, p, rfl, h1, h2, _⟩ := h
    exact ⟨a, dx, fs, g, p, _, rfl, rfl, h1, h2⟩
  | pair o f1 f2 =>
    obtain ⟨v1, l1, v2, l2, rfl, t1, t2, a, dx, fs, g, p, rfl, h1, h2, _⟩ := h
    exact ⟨a, dx, fs, g, p, _, rfl, rfl, h1, h2⟩
  | cho f1 s f2 f3 =>
    obtain ⟨v1, l1, v2, l2, v3, l3, rfl, t1, t2, t3, a, dx, fs, g, p, t, rfl, h1, h2, _⟩ := h
    exact ⟨a, dx, fs, g, p, _, rfl, rfl, h1, h2⟩
/-- its nodes have not been asked for -/
def SqNon (H : Hp) (v : V) : Prop := ∃ x C dx fs, v = .ref x ∧ H x = some (.ins C dx fs) ∧ fs.lookup ("_sequence" : Str) = some .non
theorem FmAt.part {K : PySem.W.Frag} {c : Cs} {H : Hp} {f : Fm} {v : V} {l : List V} (T : Cl K c) (h : FmAt K c H f v l) : PartAt K H v f.q := by
  obtain ⟨a, dx, fs, g, p, r, rfl, _, h1, h2⟩ := h.obj
  exact ⟨a, _, dx, fs, rfl, h1, T.at_ f, h2.mn, h2.dp⟩
end K12

namespace K12
open PySem PySem.Spec PyProof.Rows L2
local macro_rules | `(tactic| walk_at "rd1") => `(tactic| first
  | (with_reducible refine Rd.seq ?_) | (with_reducible refine Rd.asg ?_) | (with_reducible refine Rd.ret ?_) | (with_reducible refine Rd.nxt ?_) | (with_reducible refine Rd.ifS ?_)
  | (with_reducible refine Rd.op ?_) | (with_reducible refine Rd.un ?_) | (with_reducible refine Rd.cb ?_) | (with_reducible refine Rd.cons ?_) | (with_reducible refine Rd.nil ?_) | (with_reducible refine Rd.ifx ?_)
  | (with_reducible refine Rd.test ?_) | (with_reducible refine Rd.testB ?_) | (with_reducible refine Rd.notT ?_) | (with_reducible refine Rd.isB ?_) | (with_reducible refine Rd.lst ?_) | (with_reducible refine Rd.tup ?_)
  | (with_reducible refine Rd.andV ?_) | (with_reducible refine Rd.orV ?_) | (with_reducible refine Rd.notV ?_) | (with_reducible refine Rd.andT ?_) | (with_reducible refine Rd.orT ?_) | (with_reducible refine Rd.chain ?_)
  | (with_reducible refine Rd.m0 ?_) | (with_reducible refine Rd.m1 ?_) | (with_reducible refine Rd.bm0 ?_) | (with_reducible refine Rd.bm ?_) | (with_reducible refine Rd.sl ?_) | (with_reducible refine Rd.part ?_) | (with_reducible refine Rd.part0 ?_) | (with_reducible refine Rd.isI ?_)
  | (with_reducible refine Rd.fmt ?_) | (with_reducible refine Rd.fmtRD ?_) | (with_reducible refine Rd.meth ?_) | (with_reducible refine Rd.make ?_) | (with_reducible refine Rd.prop ?_) | (with_reducible refine Rd.js ?_) | (with_reducible refine Rd.js0 ?_) | (with_reducible refine Rd.par ?_) | (with_reducible refine Rd.star ?_) | (with_reducible refine lcR1 ?_) | (with_reducible refine lcR2 ?_) | (with_reducible refine Rd.fld ?_) | (with_reducible refine Rd.sfld ?_) | (with_reducible refine Rd.expr ?_) | (with_reducible refine L2.isNR ?_) | (with_reducible refine L2.methI ?_) | (with_reducible refine Rd.forZ ?_)
  | (with_reducible refine Rd.forEA ?_) | (with_reducible refine Rd.forR1 ?_) | (with_reducible refine Rd.forR2 ?_) | (with_reducible refine Rd.forL ?_) | (with_reducible refine Rd.forT ?_)
  | (with_reducible refine Rd.call ?_) | (with_reducible refine Rd.asgG ?_) | (with_reducible refine Rd.gNm ?_) | (with_reducible refine Rd.gSb ?_) | (with_reducible refine Rd.gC ?_) | (with_reducible refine Rd.gN ?_)
  | ((with_reducible refine' Rd.var ?hv ?_); (case hv => exact rfl)) | (with_reducible refine Rd.c ?_) | (with_reducible refine Rd.i0 ?_) | (with_reducible refine Rd.neg ?_)
  | ((with_reducible refine' Rd.iC ?hc ?_); (case hc => first | (show (0 : Int) < _; decide) | exact ⟨by decide, by decide⟩ | exact ⟨by decide, by decide, by decide⟩ | exact .inl ⟨by decide, by decide⟩ | exact .inr ⟨by decide, by decide⟩ | exact .inl ⟨by omega, by omega⟩ | (show (0 : Int) < _; omega) | exact ⟨by omega, by omega⟩))
  | ((with_reducible refine' Rd.eqS ?hc ?_); (case hc => rfl)) | ((with_reducible refine' Rd.neS ?hc ?_); (case hc => rfl)))
local macro_rules | `(tactic| walk_at "rd") => `(tactic| repeat walk_at "rd1")
/-! ### names and numbers -/
structure Nam (x : Str) : Prop where
  few : x.length ≤ 8
  res : x ∉ reserved
  asc : Txt.isascii x = true
  alp : Txt.isalpha x = true
  low : Txt.islower x = true
  sok : PyData.strOk x = true
  rep : (PyData.str x).shown.length ≤ 20
  rok : PyData.strOk (PyData.str x).shown = true
def spIsName : Sp := fun vs H Q _ => ∃ x : Str, vs = [.str x] ∧ Nam x ∧ Q (.bl true) H
/-- what the text's top has written of names -/
structure Gs (K : PySem.W.Frag) (w : World) (mg : Str → Option Value) : Prop where
  rs : ∃ r, mg "RESERVED" = some (.ref r) ∧ (∃ es n, KDict K w r es n) ∧ ∀ x, x ∉ reserved → PySem.W.nsIn K r x = some none
  ln : ∃ t, mg "LONGEST_NAME" = some (.int 8 t)
abbrev sIsName : Stmt := topA iis_name
section
variable {P : Program} {w : World} {K : PySem.W.Frag} {mg : Str → Option Value} {base : Heap} {f fP fD : Addr} {fd fdP fdD : FuncData}
theorem scBetween : FnScope ["value", "low", "high"] ["value", "low", "high"] (defScope sBetween) := ⟨rfl, rfl, rfl, by decide +kernel, rfl, by decide +kernel, by decide +kernel⟩
theorem ok_between (F : FnP K "is_between" sBetween f fd) (gIs : mg "isinstance" = none) (gInt : mg "int" = none) (gBool : mg "bool" = none) : FnOk P w K mg base CX0 1 f fd ["value", "low", "high"] spBetween := by
  refine F.ok scBetween (fun vs H Q E h => ?_) (fun cdv A outer s H vs Q E hr h => ?_)
  · obtain ⟨v, lo, hi, rfl, _⟩ := h
    rfl
  · obtain ⟨v, lo, hi, rfl, q⟩ := h
    refine ⟨_, PSs.nox (pss_one (ps_ret (pe_and (pe_callB call_isi rfl gIs (by decide +kernel) (pa_cons (pv 0) (pa_cons (pe_bltn rfl gInt (by decide +kernel) (v := .ty "int") rfl) pa_nil)))
      (pe_and (pe_not (pe_callB call_isi rfl gIs (by decide +kernel) (pa_cons (pv 0) (pa_cons (pe_bltn rfl gBool (by decide +kernel) (v := .ty "bool") rfl) pa_nil)))) (pe_one (pe_chain op_le op_le (pv 1) (pv 0) (pv 2))))))), ?_⟩
    walk_at "rd"
    refine Rd.isi (k := true) (.base (.int _)) (by decide +kernel) ?_
    refine Rd.isT rfl ?_
    walk_at "rd"
    refine Rd.isi (k := false) (.base (.int _)) (by decide +kernel) ?_
    refine ⟨_, rfl, ?_⟩
    refine Rd.isT rfl ?_
    walk_at "rd"
    refine Rd.ifB (fun h => ?_) (fun h => ?_)
    · walk_at "rd"
      rw [h, Bool.true_and] at q
      exact q
    · rw [h, Bool.false_and] at q
      exact q
theorem scIsName : FnScope ["value"] ["value"] (defScope sIsName) := ⟨rfl, rfl, rfl, by decide +kernel, rfl, by decide +kernel, by decide +kernel⟩
theorem ok_isName (F : FnP K "is_name" sIsName f fd) (R : Gs K w mg) (gIs : mg "isinstance" = none) (gStr : mg "str" = none) (gLen : mg "len" = none) : FnOk P w K mg base CX0 1 f fd ["value"] spIsName := by
  obtain ⟨r, gR, ⟨es, en, D⟩, hR⟩ := R.rs
  obtain ⟨tl, gL⟩ := R.ln
  refine F.ok scIsName (fun vs H Q E h => ?_) (fun cdv A outer s H vs Q E hr h => ?_)
  · obtain ⟨x, rfl, _⟩ := h
    rfl
  · obtain ⟨x, rfl, hx, q⟩ := h
    obtain ⟨m1, m2, m3, m4, m5, _⟩ := hx
    refine ⟨_, PSs.nox (pss_cons (ps_if (PW.pt (pw_or (pt_not (pt_val (pe_callB call_isi rfl gIs (by decide +kernel) (pa_cons (pv 0) (pa_cons (pe_bltn rfl gStr (by decide +kernel) (v := .ty "str") rfl) pa_nil)))))
        (pw_or (pt_cmpR op_gt (pe_callB call_len_str rfl gLen (by decide +kernel) (pa_cons (pv 0) pa_nil)) (pe_glob rfl gL (v := .int 8) ⟨_, rfl⟩) (nomark _)) (pw_or1 (pt_cmpR (op_in_kd D) (pv 0) (pe_glob rfl gR (v := .ref r) rfl) rfl)))))
        (pss_one (ps_ret pe_bl)) pss_nil)
      (pss_one (ps_ret (pe_and (pe_m0 PySem.F.slot_str_isalpha PySem.F.type_str_isalpha mt_isalpha (pv 0)) (pe_and (pe_m0 PySem.F.slot_str_islower PySem.F.type_str_islower mt_islower (pv 0)) (pe_one (pe_m0 PySem.F.slot_str_isascii PySem.F.type_str_isascii mt_isascii (pv 0)))))))), ?_⟩
    walk_at "rd"
    refine Rd.isi (k := true) (.base (.str _)) (by decide +kernel) ?_
    walk_at "rd"
    refine iteF ?_
    walk_at "rd"
    refine ⟨x, rfl, Nat.le_trans m1 (by decide), ?_⟩
    walk_at "rd"
    refine Rd.ifB (fun z => ?_) (fun _ => ?_)
    · have := of_decide_eq_true z
      omega
    walk_at "rd"
    refine ⟨x, _, rfl, rfl, hR x m2, ?_⟩
    refine ⟨_, rfl, ?_⟩
    refine iteF ?_
    walk_at "rd"
    refine ⟨⟨_, rfl⟩, x, rfl, rfl, trivial, ?_⟩
    refine Rd.isT m4 ?_
    walk_at "rd"
    refine ⟨⟨_, rfl⟩, x, rfl, rfl, trivial, ?_⟩
    refine Rd.isT m5 ?_
    walk_at "rd"
    refine ⟨⟨_, rfl⟩, x, rfl, rfl, trivial, ?_⟩
    rw [m3]
    exact q
end
/-! ### references -/
def spRef (K : PySem.W.Frag) (c : Cs) : Sp := fun args H Q _ => ∃ (x dx : Addr) (w : Nat) (col : Str), args = [.ref x, .str (refName w), .str (refWhere w), .str col] ∧ H x = some (.ins (c.ref w) dx []) ∧ Nam col ∧
  ∀ H', But x H H' → FmAt K c H' (.ref w col) (.ref x) [.ref x] → SqNon H' (.ref x) → Q .non H'
def spRefW (K : PySem.W.Frag) (c : Cs) (w : Nat) : Sp := fun args H Q _ => ∃ (x dx : Addr) (col : Str), args = [.ref x, .str col] ∧ H x = some (.ins (c.ref w) dx []) ∧ Nam col ∧ ∀ H', But x H H' → FmAt K c H' (.ref w col) (.ref x) [.ref x] → SqNon H' (.ref x) → Q .non H'
abbrev sInitR : Stmt := sMeth iReference 0
section
variable {P : Program} {w : World} {K : PySem.W.Frag} {mg : Str → Option Value} {base : Heap} {c : Cs} {D C f fB fI cc : Addr} {fd fdB fdI : FuncData}
theorem scRef : FnScope ["self", "name", "where", "column"] ["self", "name", "where", "column"] (defScope sInitR) := ⟨rfl, rfl, rfl, by decide +kernel, rfl, by decide +kernel, by decide +kernel⟩
theorem ok_ref (F : FunD K "__init__" "Reference.__init__" (defArgs sInitR) (defBody sInitR) (defScope sInitR) [] [] f fd) (T : Cl K c)
    (FI : FunD K "__init__" "Formula.__init__" (defArgs sInitF) (defBody sInitF) (defScope sInitF) [] [] fI fdI) {CS : Addr} (gS : mg "Formula" = some (.ref CS)) (cS : CFn K CS "__init__" fI) (GI : FnOk P w K mg base CX0 1 fI fdI ["self", "name", "given", "parts"] (spInitF K))
    (FB : FnP K "is_name" sIsName fB fdB) (GB : FnOk P w K mg base CX0 1 fB fdB ["value"] spIsName) (gB : mg "is_name" = some (.ref fB)) : FnOk P w K mg base CX0 2 f fd ["self", "name", "where", "column"] (spRef K c) := by
  have bI : Binds K fdI ["self", "name", "given", "parts"] [] := FI.bindsN fun _ _ _ _ _ _ us hl => match us, hl with | [_, _, _, _], _ => rfl
  have bB : Binds K fdB ["value"] [] := FB.bindsN fun _ _ _ _ _ _ us hl => match us, hl with | [_], _ => rfl
  refine F.ok scRef (fun vs H Q E h => ?_) (fun cdv A outer s H vs Q E hr h => ?_)
  · obtain ⟨x, dx, w, n, rfl, _⟩ := h
    rfl
  · obtain ⟨x, dx, wh, n, rfl, hx, hn, q⟩ := h
    have fc := T.ref wh
    refine ⟨_, PSs.nox (pss_cons (ps_if (pt_not (pt_val (pe_call GB hr rfl gB FB.kp bB .nil pass0 (pa_cons (pv 3) pa_nil)))) (pss_one ps_never) pss_nil)
      (pss_cons (ps_expr (pe_cfn (pe_glob rfl gS (v := .ref CS) rfl) cS GI hr FI.kp bI pass0 (pa_cons (pv 0) (pa_cons (pv 1) (pa_cons (pe_tup (pa_cons (pv 3) pa_nil)) (pa_cons (pe_tup pa_nil) pa_nil))))))
      (pss_cons (ps_fld (pv 0) (pv 2) rfl) (pss_one (ps_fld (pv 0) (pv 3) rfl))))), ?_⟩
    walk_at "rd"
    refine ⟨n, rfl, hn, ?_⟩
    walk_at "rd"
    refine iteF ?_
    walk_at "rd"
    refine Rd.cfn ?_
    walk_at "rd"
    refine ⟨Rd.small (by show 1 ≤ 100000; decide), fun g n1 => ?_⟩
    have s1 := same_new (o := HO.tup ([V.str n])) n1
    have t1 := upd_same (H := H) (a := g) (o := HO.tup ([V.str n]))
    generalize upd H g (HO.tup ([V.str n])) = H1 at s1 t1 ⊢
    walk_at "rd"
    refine ⟨Rd.small (by show 0 ≤ 100000; decide), fun p n2 => ?_⟩
    have s2 := same_new (o := HO.tup ([])) n2
    have t2 := upd_same (H := H1) (a := p) (o := HO.tup ([]))
    generalize upd H1 p (HO.tup ([])) = H2 at s2 t2 ⊢
    walk_at "rd"
    have x2 := s2 _ _ (s1 _ _ hx)
    refine ⟨x, _, dx, g, p, _, _, [], rfl, x2, fc, SqT.of t2, ⟨rfl, fun i v h => by simp at h⟩, by decide, by decide, fun H3 b3 x3 => ?_⟩
    have eF : fmN [] = 1 ∧ fmD [] = 0 := ⟨rfl, rfl⟩
    rw [eF.1, eF.2] at x3
    walk_at "rd"
    refine ⟨x, _, dx, _, rfl, x3, fc.cl, fc.no "where", (by show 6 < 1000; decide), ?_⟩
    have x4 := upd_same (H := H3) (a := x) (o := HO.ins (c.ref wh) dx (putF "where" (.str (refWhere wh)) (baseFs (refName wh) g p 1 0)))
    have b4 := But.set (p := x) (H := H3) (o := HO.ins (c.ref wh) dx (putF "where" (.str (refWhere wh)) (baseFs (refName wh) g p 1 0)))
    generalize upd H3 x (HO.ins (c.ref wh) dx (putF "where" (.str (refWhere wh)) (baseFs (refName wh) g p 1 0))) = H4 at x4 b4 ⊢
    walk_at "rd"
    refine ⟨x, _, dx, _, rfl, x4, fc.cl, fc.no "column", (by show 7 < 1000; decide), ?_⟩
    have x5 := upd_same (H := H4) (a := x) (o := HO.ins (c.ref wh) dx (putF "column" (.str n) (putF "where" (.str (refWhere wh)) (baseFs (refName wh) g p 1 0))))
    have b5 := But.set (p := x) (H := H4) (o := HO.ins (c.ref wh) dx (putF "column" (.str n) (putF "where" (.str (refWhere wh)) (baseFs (refName wh) g p 1 0))))
    generalize upd H4 x (HO.ins (c.ref wh) dx (putF "column" (.str n) (putF "where" (.str (refWhere wh)) (baseFs (refName wh) g p 1 0)))) = H5 at x5 b5 ⊢
    walk_at "rd"
    have b := b3.trans (b4.trans b5)
    have ne : ∀ {o : HO} {b : Addr}, H2 b = some o → (∀ C dx fs, o ≠ .ins C dx fs) → b ≠ x := fun e n z => by
      rw [z, x2] at e
      cases e
      exact n _ _ _ rfl
    have g2 := s2 _ _ t1
    have g5 := b _ _ (ne g2 fun _ _ _ z => by cases z) g2
    have p5 := b _ _ (ne t2 fun _ _ _ z => by cases z) t2
    exact q H5 (fun d o hb e => b d o hb (s2 _ _ (s1 _ _ e))) ⟨rfl, x, dx, _, g, p, rfl, x5, ⟨rfl, rfl, rfl, rfl, rfl, ⟨_, rfl, .inl rfl⟩, (by show 8 < 900; decide), rfl⟩, SqT.of g5, SqT.of p5, rfl, rfl⟩ ⟨_, _, _, _, rfl, x5, rfl⟩
abbrev sInitHere : Stmt := sMeth iHere 0
theorem scHere : FnScope ["self", "column"] ["self", "column"] (defScope sInitHere) := ⟨rfl, rfl, rfl, by decide +kernel, rfl, by decide +kernel, by decide +kernel⟩
theorem ok_here (F : FunD K "__init__" "Here.__init__" (defArgs sInitHere) (defBody sInitHere) (defScope sInitHere) [] [] f fd)
    (FI : FunD K "__init__" "Reference.__init__" (defArgs sInitR) (defBody sInitR) (defScope sInitR) [] [] fI fdI) {CS : Addr} (gS : mg "Reference" = some (.ref CS)) (cS : CFn K CS "__init__" fI) (GI : FnOk P w K mg base CX0 2 fI fdI ["self", "name", "where", "column"] (spRef K c)) : FnOk P w K mg base CX0 3 f fd ["self", "column"] (spRefW K c 0) := by
  have bI : Binds K fdI ["self", "name", "where", "column"] [] := FI.bindsN fun _ _ _ _ _ _ us hl => match us, hl with | [_, _, _, _], _ => rfl
  refine F.ok scHere (fun vs H Q E h => ?_) (fun cdv A outer s H vs Q E hr h => ?_)
  · obtain ⟨x, dx, n, rfl, _⟩ := h
    rfl
  · obtain ⟨x, dx, n, rfl, hx, hn, q⟩ := h
    refine ⟨_, PSs.nox (pss_cons (ps_expr (pe_cfn (pe_glob rfl gS (v := .ref CS) rfl) cS GI hr FI.kp bI pass0 (pa_cons (pv 0) (pa_cons pe_str (pa_cons pe_str (pa_cons (pv 1) pa_nil)))))) pss_nil), ?_⟩
    refine Rd.cfn ?_
    walk_at "rd"
    refine ⟨x, dx, 0, n, rfl, hx, hn, fun H1 b1 h1 => ?_⟩
    walk_at "rd"
    exact q H1 b1 h1
abbrev sInitUp : Stmt := sMeth iUp 0
theorem scUp : FnScope ["self", "column"] ["self", "column"] (defScope sInitUp) := ⟨rfl, rfl, rfl, by decide +kernel, rfl, by decide +kernel, by decide +kernel⟩
theorem ok_up (F : FunD K "__init__" "Up.__init__" (defArgs sInitUp) (defBody sInitUp) (defScope sInitUp) [] [] f fd)
    (FI : FunD K "__init__" "Reference.__init__" (defArgs sInitR) (defBody sInitR) (defScope sInitR) [] [] fI fdI) {CS : Addr} (gS : mg "Reference" = some (.ref CS)) (cS : CFn K CS "__init__" fI) (GI : FnOk P w K mg base CX0 2 fI fdI ["self", "name", "where", "column"] (spRef K c)) : FnOk P w K mg base CX0 3 f fd ["self", "column"] (spRefW K c 1) := by
  have bI : Binds K fdI ["self", "name", "where", "column"] [] := FI.bindsN fun _ _ _ _ _ _ us hl => match us, hl with | [_, _, _, _], _ => rfl
  refine F.ok scUp (fun vs H Q E h => ?_) (fun cdv A outer s H vs Q E hr h => ?_)
  · obtain ⟨x, dx, n, rfl, _⟩ := h
    rfl
  · obtain ⟨x, dx, n, rfl, hx, hn, q⟩ := h
    refine ⟨_, PSs.nox (pss_cons (ps_expr (pe_cfn (pe_glob rfl gS (v := .ref CS) rfl) cS GI hr FI.kp bI pass0 (pa_cons (pv 0) (pa_cons pe_str (pa_cons pe_str (pa_cons (pv 1) pa_nil)))))) pss_nil), ?_⟩
    refine Rd.cfn ?_
    walk_at "rd"
    refine ⟨x, dx, 1, n, rfl, hx, hn, fun H1 b1 h1 => ?_⟩
    walk_at "rd"
    exact q H1 b1 h1
abbrev sInitDown : Stmt := sMeth iDown 0
theorem scDown : FnScope ["self", "column"] ["self", "column"] (defScope sInitDown) := ⟨rfl, rfl, rfl, by decide +kernel, rfl, by decide +kernel, by decide +kernel⟩
theorem ok_down (F : FunD K "__init__" "Down.__init__" (defArgs sInitDown) (defBody sInitDown) (defScope sInitDown) [] [] f fd)
    (FI : FunD K "__init__" "Reference.__init__" (defArgs sInitR) (defBody sInitR) (defScope sInitR) [] [] fI fdI) {CS : Addr} (gS : mg "Reference" = some (.ref CS)) (cS : CFn K CS "__init__" fI) (GI : FnOk P w K mg base CX0 2 fI fdI ["self", "name", "where", "column"] (spRef K c)) : FnOk P w K mg base CX0 3 f fd ["self", "column"] (spRefW K c 2) := by
  have bI : Binds K fdI ["self", "name", "where", "column"] [] := FI.bindsN fun _ _ _ _ _ _ us hl => match us, hl with | [_, _, _, _], _ => rfl
  refine F.ok scDown (fun vs H Q E h => ?_) (fun cdv A outer s H vs Q E hr h => ?_)
  · obtain ⟨x, dx, n, rfl, _⟩ := h
    rfl
  · obtain ⟨x, dx, n, rfl, hx, hn, q⟩ := h
    refine ⟨_, PSs.nox (pss_cons (ps_expr (pe_cfn (pe_glob rfl gS (v := .ref CS) rfl) cS GI hr FI.kp bI pass0 (pa_cons (pv 0) (pa_cons pe_str (pa_cons pe_str (pa_cons (pv 1) pa_nil)))))) pss_nil), ?_⟩
    refine Rd.cfn ?_
    walk_at "rd"
    refine ⟨x, dx, 2, n, rfl, hx, hn, fun H1 b1 h1 => ?_⟩
    walk_at "rd"
    exact q H1 b1 h1
end
end K12

namespace K12
open PySem PySem.Spec PyProof.Rows L2
local macro_rules | `(tactic| walk_at "rd1") => `(tactic| first
  | (with_reducible refine Rd.seq ?_) | (with_reducible refine Rd.asg ?_) | (with_reducible refine Rd.ret ?_) | (with_reducible refine Rd.nxt ?_) | (with_reducible refine Rd.ifS ?_)
  | (with_reducible refine Rd.op ?_) | (with_reducible refine Rd.un ?_) | (with_reducible refine Rd.cb ?_) | (with_reducible refine Rd.cons ?_) | (with_reducible refine Rd.nil ?_) | (with_reducible refine Rd.ifx ?_)
  | (with_reducible refine Rd.test ?_) | (with_reducible refine Rd.testB ?_) | (with_reducible refine Rd.notT ?_) | (with_reducible refine Rd.isB ?_) | (with_reducible refine Rd.lst ?_) | (with_reducible refine Rd.tup ?_)
  | (with_reducible refine Rd.andV ?_) | (with_reducible refine Rd.orV ?_) | (with_reducible refine Rd.notV ?_) | (with_reducible refine Rd.andT ?_) | (with_reducible refine Rd.orT ?_) | (with_reducible refine Rd.chain ?_)
  | (with_reducible refine Rd.m0 ?_) | (with_reducible refine Rd.m1 ?_) | (with_reducible refine Rd.bm0 ?_) | (with_reducible refine Rd.bm ?_) | (with_reducible refine Rd.sl ?_) | (with_reducible refine Rd.part ?_) | (with_reducible refine Rd.part0 ?_) | (with_reducible refine Rd.isI ?_)
  | (with_reducible refine Rd.fmt ?_) | (with_reducible refine Rd.fmtRD ?_) | (with_reducible refine Rd.meth ?_) | (with_reducible refine Rd.make ?_) | (with_reducible refine Rd.prop ?_) | (with_reducible refine Rd.js ?_) | (with_reducible refine Rd.js0 ?_) | (with_reducible refine Rd.par ?_) | (with_reducible refine Rd.star ?_) | (with_reducible refine lcR1 ?_) | (with_reducible refine lcR2 ?_) | (with_reducible refine Rd.fld ?_) | (with_reducible refine Rd.sfld ?_) | (with_reducible refine Rd.expr ?_) | (with_reducible refine L2.isNR ?_) | (with_reducible refine L2.methI ?_) | (with_reducible refine Rd.forZ ?_)
  | (with_reducible refine Rd.forEA ?_) | (with_reducible refine Rd.forR1 ?_) | (with_reducible refine Rd.forR2 ?_) | (with_reducible refine Rd.forL ?_) | (with_reducible refine Rd.forT ?_)
  | (with_reducible refine Rd.call ?_) | (with_reducible refine Rd.asgG ?_) | (with_reducible refine Rd.gNm ?_) | (with_reducible refine Rd.gSb ?_) | (with_reducible refine Rd.gC ?_) | (with_reducible refine Rd.gN ?_)
  | ((with_reducible refine' Rd.var ?hv ?_); (case hv => exact rfl)) | (with_reducible refine Rd.c ?_) | (with_reducible refine Rd.i0 ?_) | (with_reducible refine Rd.neg ?_)
  | ((with_reducible refine' Rd.iC ?hc ?_); (case hc => first | (show (0 : Int) < _; decide) | exact ⟨by decide, by decide⟩ | exact ⟨by decide, by decide, by decide⟩ | exact .inl ⟨by decide, by decide⟩ | exact .inr ⟨by decide, by decide⟩ | exact .inl ⟨by omega, by omega⟩ | (show (0 : Int) < _; omega) | exact ⟨by omega, by omega⟩))
  | ((with_reducible refine' Rd.eqS ?hc ?_); (case hc => rfl)) | ((with_reducible refine' Rd.neS ?hc ?_); (case hc => rfl)))
local macro_rules | `(tactic| walk_at "rd") => `(tactic| repeat walk_at "rd1")
/-! ### is it a formula? -/
structure Fb (K : PySem.W.Frag) (mg : Str → Option Value) (c : Cs) (CF : Addr) : Prop where
  gF : mg "Formula" = some (.ref CF)
  hgt : PySem.W.specialIn K (.builtin "object.__class__") "__get__" = some (some (.builtin "getset_descriptor.__get__"))
  htk : PySem.W.takesIn K (.builtin "object.__class__") = some true
  hcl : ∀ f : Fm, PySem.W.findIn K (.ref (clsOf c f)) "__class__" = some (some (.builtin "object.__class__"))
  hmo : ∀ f : Fm, PySem.W.mroIn K (clsOf c f) (.type "object") = some true
  kit : ∀ f : Fm, PySem.W.kitOne K (.ref (clsOf c f)) (.ref CF) = some true
def spCheckF (K : PySem.W.Frag) (c : Cs) : Sp := fun vs H Q _ => ∃ (f : Fm) (v : V) (l : List V), vs = [v] ∧ FmAt K c H f v l ∧ Q .non H
abbrev sCheckF : Stmt := topA i_check_formula
abbrev sInitP : Stmt := sMeth iPair 0
def spPairI (K : PySem.W.Frag) (c : Cs) : Sp := fun args H Q _ => ∃ (x dx : Addr) (o : Nat) (f1 f2 : Fm) (v1 v2 : V) (l1 l2 : List V), args = [.ref x, .str (pairName o), v1, v2] ∧ H x = some (.ins (c.pair o) dx []) ∧ FmAt K c H f1 v1 l1 ∧ FmAt K c H f2 v2 l2 ∧
  (Fm.pair o f1 f2).q.1 ≤ 40 ∧ (Fm.pair o f1 f2).q.2 ≤ 8 ∧ ∀ H', But x H H' → FmAt K c H' (.pair o f1 f2) (.ref x) (.ref x :: (l1 ++ l2)) → SqNon H' (.ref x) → Q .non H'
def spPair (K : PySem.W.Frag) (c : Cs) (o : Nat) : Sp := fun args H Q _ => ∃ (x dx : Addr) (f1 f2 : Fm) (v1 v2 : V) (l1 l2 : List V), args = [.ref x, v1, v2] ∧ H x = some (.ins (c.pair o) dx []) ∧ FmAt K c H f1 v1 l1 ∧ FmAt K c H f2 v2 l2 ∧
  (Fm.pair o f1 f2).q.1 ≤ 40 ∧ (Fm.pair o f1 f2).q.2 ≤ 8 ∧ ∀ H', But x H H' → FmAt K c H' (.pair o f1 f2) (.ref x) (.ref x :: (l1 ++ l2)) → SqNon H' (.ref x) → Q .non H'
section
variable {P : Program} {w : World} {K : PySem.W.Frag} {mg : Str → Option Value} {base : Heap} {c : Cs} {CF D C f fB fI cc : Addr} {fd fdB fdI : FuncData}
theorem scCheckF : FnScope ["value"] ["value"] (defScope sCheckF) := ⟨rfl, rfl, rfl, by decide +kernel, rfl, by decide +kernel, by decide +kernel⟩
theorem ok_checkF (F : FnP K "_check_formula" sCheckF f fd) (T : Cl K c) (B : Fb K mg c CF) (gIs : mg "isinstance" = none) : FnOk P w K mg base CX0 1 f fd ["value"] (spCheckF K c) := by
  refine F.ok scCheckF (fun vs H Q E h => ?_) (fun cdv A outer s H vs Q E hr h => ?_)
  · obtain ⟨f1, v, l, rfl, _⟩ := h
    rfl
  · obtain ⟨f1, v, l, rfl, hf, q⟩ := h
    obtain ⟨a, dx, fs, g, p, r, rfl, rfl, ha, _⟩ := hf.obj
    refine ⟨_, PSs.nox (pss_one (ps_if (pt_not (pt_val (pe_callB call_isi rfl gIs (by decide +kernel) (pa_cons (pv 0) (pa_cons (pe_glob rfl B.gF (v := .ref CF) rfl) pa_nil))))) (pss_one ps_never) pss_nil)), ?_⟩
    walk_at "rd"
    refine ⟨.ref a, .ref CF, .ref (clsOf c f1), .ref CF, true, rfl, .own CF, .base (.ins ha (T.at_ f1).cl (B.hcl f1) B.hgt B.htk (B.hmo f1)), B.kit f1, ?_⟩
    refine ⟨_, rfl, ?_⟩
    refine iteF ?_
    walk_at "rd"
    exact q
/-! ### pairs -/
theorem scPair : FnScope ["self", "name", "left", "right"] ["self", "name", "left", "right"] (defScope sInitP) := ⟨rfl, rfl, rfl, by decide +kernel, rfl, by decide +kernel, by decide +kernel⟩
theorem ok_pair (F : FunD K "__init__" "Pair.__init__" (defArgs sInitP) (defBody sInitP) (defScope sInitP) [] [] f fd) (T : Cl K c)
    (FI : FunD K "__init__" "Formula.__init__" (defArgs sInitF) (defBody sInitF) (defScope sInitF) [] [] fI fdI) {CS : Addr} (gS : mg "Formula" = some (.ref CS)) (cS : CFn K CS "__init__" fI) (GI : FnOk P w K mg base CX0 1 fI fdI ["self", "name", "given", "parts"] (spInitF K))
    (FB : FnP K "_check_formula" sCheckF fB fdB) (GB : FnOk P w K mg base CX0 1 fB fdB ["value"] (spCheckF K c)) (gB : mg "_check_formula" = some (.ref fB)) : FnOk P w K mg base CX0 2 f fd ["self", "name", "left", "right"] (spPairI K c) := by
  have bI : Binds K fdI ["self", "name", "given", "parts"] [] := FI.bindsN fun _ _ _ _ _ _ us hl => match us, hl with | [_, _, _, _], _ => rfl
  have bB : Binds K fdB ["value"] [] := FB.bindsN fun _ _ _ _ _ _ us hl => match us, hl with | [_], _ => rfl
  refine F.ok scPair (fun vs H Q E h => ?_) (fun cdv A outer s H vs Q E hr h => ?_)
  · obtain ⟨x, dx, o, f1, f2, v1, v2, l1, l2, rfl, _⟩ := h
    rfl
  · obtain ⟨x, dx, o, f1, f2, v1, v2, l1, l2, rfl, hx, h1, h2, le1, le2, q⟩ := h
    have fc := T.pair o
    refine ⟨_, PSs.nox (pss_cons (ps_expr (pe_call GB hr rfl gB FB.kp bB .nil pass0 (pa_cons (pv 2) pa_nil))) (pss_cons (ps_expr (pe_call GB hr rfl gB FB.kp bB .nil pass0 (pa_cons (pv 3) pa_nil)))
      (pss_cons (ps_expr (pe_cfn (pe_glob rfl gS (v := .ref CS) rfl) cS GI hr FI.kp bI pass0 (pa_cons (pv 0) (pa_cons (pv 1) (pa_cons (pe_tup (pa_cons (pv 2) (pa_cons (pv 3) pa_nil))) (pa_cons (pe_tup (pa_cons (pv 2) (pa_cons (pv 3) pa_nil))) pa_nil))))))
      (pss_cons (ps_fld (pv 0) (pv 2) rfl) (pss_one (ps_fld (pv 0) (pv 3) rfl)))))), ?_⟩
    walk_at "rd"
    refine ⟨f1, v1, l1, rfl, h1, ?_⟩
    walk_at "rd"
    refine ⟨f2, v2, l2, rfl, h2, ?_⟩
    walk_at "rd"
    refine Rd.cfn ?_
    walk_at "rd"
    refine ⟨Rd.small (by show 2 ≤ 100000; decide), fun g n1 => ?_⟩
    have s1 := same_new (o := HO.tup ([v1, v2])) n1
    have t1 := upd_same (H := H) (a := g) (o := HO.tup ([v1, v2]))
    generalize upd H g (HO.tup ([v1, v2])) = H1 at s1 t1 ⊢
    walk_at "rd"
    refine ⟨Rd.small (by show 2 ≤ 100000; decide), fun p n2 => ?_⟩
    have s2 := same_new (o := HO.tup ([v1, v2])) n2
    have t2 := upd_same (H := H1) (a := p) (o := HO.tup ([v1, v2]))
    generalize upd H1 p (HO.tup ([v1, v2])) = H2 at s2 t2 ⊢
    walk_at "rd"
    have x2 := s2 _ _ (s1 _ _ hx)
    have p1 := (h1.kp (kp_same (s1.trans s2))).part T
    have p2 := (h2.kp (kp_same (s1.trans s2))).part T
    refine ⟨x, _, dx, g, p, _, _, [f1.q, f2.q], rfl, x2, fc, SqT.of t2, ⟨rfl, fun i v h => ?_⟩, le1, le2, fun H3 b3 x3 => ?_⟩
    · match i, h with
      | 0, h => cases h; exact ⟨_, rfl, p1⟩
      | 1, h => cases h; exact ⟨_, rfl, p2⟩
    walk_at "rd"
    refine ⟨x, _, dx, _, rfl, x3, fc.cl, fc.no "left", (by show 6 < 1000; decide), ?_⟩
    have x4 := upd_same (H := H3) (a := x) (o := HO.ins (c.pair o) dx (putF "left" v1 (baseFs (pairName o) g p (fmN [f1.q, f2.q]) (fmD [f1.q, f2.q]))))
    have b4 := But.set (p := x) (H := H3) (o := HO.ins (c.pair o) dx (putF "left" v1 (baseFs (pairName o) g p (fmN [f1.q, f2.q]) (fmD [f1.q, f2.q]))))
    generalize upd H3 x (HO.ins (c.pair o) dx (putF "left" v1 (baseFs (pairName o) g p (fmN [f1.q, f2.q]) (fmD [f1.q, f2.q])))) = H4 at x4 b4 ⊢
    walk_at "rd"
    refine ⟨x, _, dx, _, rfl, x4, fc.cl, fc.no "right", (by show 7 < 1000; decide), ?_⟩
    have x5 := upd_same (H := H4) (a := x) (o := HO.ins (c.pair o) dx (putF "right" v2 (putF "left" v1 (baseFs (pairName o) g p (fmN [f1.q, f2.q]) (fmD [f1.q, f2.q])))))
    have b5 := But.set (p := x) (H := H4) (o := HO.ins (c.pair o) dx (putF "right" v2 (putF "left" v1 (baseFs (pairName o) g p (fmN [f1.q, f2.q]) (fmD [f1.q, f2.q])))))
    generalize upd H4 x (HO.ins (c.pair o) dx (putF "right" v2 (putF "left" v1 (baseFs (pairName o) g p (fmN [f1.q, f2.q]) (fmD [f1.q, f2.q]))))) = H5 at x5 b5 ⊢
    walk_at "rd"
    have b := b3.trans (b4.trans b5)
    have bb : But x H H5 := fun d o hb e => b d o hb (s2 _ _ (s1 _ _ e))
    have ne : ∀ {o : HO} {b : Addr}, H2 b = some o → (∀ C dx fs, o ≠ .ins C dx fs) → b ≠ x := fun e n z => by
      rw [z, x2] at e
      cases e
      exact n _ _ _ rfl
    have g2 := s2 _ _ t1
    have g5 := b _ _ (ne g2 fun _ _ _ z => by cases z) g2
    have p5 := b _ _ (ne t2 fun _ _ _ z => by cases z) t2
    have k5 := kp_new hx bb
    exact q H5 bb ⟨v1, l1, v2, l2, rfl, h1.kp k5, h2.kp k5, x, dx, _, g, p, rfl, x5, ⟨rfl, rfl, rfl, rfl, rfl, ⟨_, rfl, .inl rfl⟩, (by show 8 < 900; decide), rfl⟩, SqT.of g5, SqT.of p5, rfl, rfl⟩ ⟨_, _, _, _, rfl, x5, rfl⟩
abbrev sInitPlus : Stmt := sMeth iPlus 0
theorem scPlus : FnScope ["self", "left", "right"] ["self", "left", "right"] (defScope sInitPlus) := ⟨rfl, rfl, rfl, by decide +kernel, rfl, by decide +kernel, by decide +kernel⟩
theorem ok_plus (F : FunD K "__init__" "Plus.__init__" (defArgs sInitPlus) (defBody sInitPlus) (defScope sInitPlus) [] [] f fd)
    (FI : FunD K "__init__" "Pair.__init__" (defArgs sInitP) (defBody sInitP) (defScope sInitP) [] [] fI fdI) {CS : Addr} (gS : mg "Pair" = some (.ref CS)) (cS : CFn K CS "__init__" fI) (GI : FnOk P w K mg base CX0 2 fI fdI ["self", "name", "left", "right"] (spPairI K c)) : FnOk P w K mg base CX0 3 f fd ["self", "left", "right"] (spPair K c 0) := by
  have bI : Binds K fdI ["self", "name", "left", "right"] [] := FI.bindsN fun _ _ _ _ _ _ us hl => match us, hl with | [_, _, _, _], _ => rfl
  refine F.ok scPlus (fun vs H Q E h => ?_) (fun cdv A outer s H vs Q E hr h => ?_)
  · obtain ⟨x, dx, f1, f2, v1, v2, l1, l2, rfl, _⟩ := h
    rfl
  · obtain ⟨x, dx, f1, f2, v1, v2, l1, l2, rfl, hx, h1, h2, le1, le2, q⟩ := h
    refine ⟨_, PSs.nox (pss_cons (ps_expr (pe_cfn (pe_glob rfl gS (v := .ref CS) rfl) cS GI hr FI.kp bI pass0 (pa_cons (pv 0) (pa_cons pe_str (pa_cons (pv 1) (pa_cons (pv 2) pa_nil)))))) pss_nil), ?_⟩
    refine Rd.cfn ?_
    walk_at "rd"
    refine ⟨x, dx, 0, f1, f2, v1, v2, l1, l2, rfl, hx, h1, h2, le1, le2, fun H1 b1 e1 z1 => ?_⟩
    walk_at "rd"
    exact q H1 b1 e1 z1
abbrev sInitLeast : Stmt := sMeth iLeast 0
theorem scLeast : FnScope ["self", "left", "right"] ["self", "left", "right"] (defScope sInitLeast) := ⟨rfl, rfl, rfl, by decide +kernel, rfl, by decide +kernel, by decide +kernel⟩
theorem ok_least (F : FunD K "__init__" "Least.__init__" (defArgs sInitLeast) (defBody sInitLeast) (defScope sInitLeast) [] [] f fd)
    (FI : FunD K "__init__" "Pair.__init__" (defArgs sInitP) (defBody sInitP) (defScope sInitP) [] [] fI fdI) {CS : Addr} (gS : mg "Pair" = some (.ref CS)) (cS : CFn K CS "__init__" fI) (GI : FnOk P w K mg base CX0 2 fI fdI ["self", "name", "left", "right"] (spPairI K c)) : FnOk P w K mg base CX0 3 f fd ["self", "left", "right"] (spPair K c 1) := by
  have bI : Binds K fdI ["self", "name", "left", "right"] [] := FI.bindsN fun _ _ _ _ _ _ us hl => match us, hl with | [_, _, _, _], _ => rfl
  refine F.ok scLeast (fun vs H Q E h => ?_) (fun cdv A outer s H vs Q E hr h => ?_)
  · obtain ⟨x, dx, f1, f2, v1, v2, l1, l2, rfl, _⟩ := h
    rfl
  · obtain ⟨x, dx, f1, f2, v1, v2, l1, l2, rfl, hx, h1, h2, le1, le2, q⟩ := h
    refine ⟨_, PSs.nox (pss_cons (ps_expr (pe_cfn (pe_glob rfl gS (v := .ref CS) rfl) cS GI hr FI.kp bI pass0 (pa_cons (pv 0) (pa_cons pe_str (pa_cons (pv 1) (pa_cons (pv 2) pa_nil)))))) pss_nil), ?_⟩
    refine Rd.cfn ?_
    walk_at "rd"
    refine ⟨x, dx, 1, f1, f2, v1, v2, l1, l2, rfl, hx, h1, h2, le1, le2, fun H1 b1 e1 z1 => ?_⟩
    walk_at "rd"
    exact q H1 b1 e1 z1
abbrev sInitMost : Stmt := sMeth iMost 0
theorem scMost : FnScope ["self", "left", "right"] ["self", "left", "right"] (defScope sInitMost) := ⟨rfl, rfl, rfl, by decide +kernel, rfl, by decide +kernel, by decide +kernel⟩
theorem ok_most (F : FunD K "__init__" "Most.__init__" (defArgs sInitMost) (defBody sInitMost) (defScope sInitMost) [] [] f fd)
    (FI : FunD K "__init__" "Pair.__init__" (defArgs sInitP) (defBody sInitP) (defScope sInitP) [] [] fI fdI) {CS : Addr} (gS : mg "Pair" = some (.ref CS)) (cS : CFn K CS "__init__" fI) (GI : FnOk P w K mg base CX0 2 fI fdI ["self", "name", "left", "right"] (spPairI K c)) : FnOk P w K mg base CX0 3 f fd ["self", "left", "right"] (spPair K c 2) := by
  have bI : Binds K fdI ["self", "name", "left", "right"] [] := FI.bindsN fun _ _ _ _ _ _ us hl => match us, hl with | [_, _, _, _], _ => rfl
  refine F.ok scMost (fun vs H Q E h => ?_) (fun cdv A outer s H vs Q E hr h => ?_)
  · obtain ⟨x, dx, f1, f2, v1, v2, l1, l2, rfl, _⟩ := h
    rfl
  · obtain ⟨x, dx, f1, f2, v1, v2, l1, l2, rfl, hx, h1, h2, le1, le2, q⟩ := h
    refine ⟨_, PSs.nox (pss_cons (ps_expr (pe_cfn (pe_glob rfl gS (v := .ref CS) rfl) cS GI hr FI.kp bI pass0 (pa_cons (pv 0) (pa_cons pe_str (pa_cons (pv 1) (pa_cons (pv 2) pa_nil)))))) pss_nil), ?_⟩
    refine Rd.cfn ?_
    walk_at "rd"
    refine ⟨x, dx, 2, f1, f2, v1, v2, l1, l2, rfl, hx, h1, h2, le1, le2, fun H1 b1 e1 z1 => ?_⟩
    walk_at "rd"
    exact q H1 b1 e1 z1
abbrev sInitSame : Stmt := sMeth iSame 0
theorem scSame : FnScope ["self", "left", "right"] ["self", "left", "right"] (defScope sInitSame) := ⟨rfl, rfl, rfl, by decide +kernel, rfl, by decide +kernel, by decide +kernel⟩
theorem ok_same (F : FunD K "__init__" "Same.__init__" (defArgs sInitSame) (defBody sInitSame) (defScope sInitSame) [] [] f fd)
    (FI : FunD K "__init__" "Pair.__init__" (defArgs sInitP) (defBody sInitP) (defScope sInitP) [] [] fI fdI) {CS : Addr} (gS : mg "Pair" = some (.ref CS)) (cS : CFn K CS "__init__" fI) (GI : FnOk P w K mg base CX0 2 fI fdI ["self", "name", "left", "right"] (spPairI K c)) : FnOk P w K mg base CX0 3 f fd ["self", "left", "right"] (spPair K c 3) := by
  have bI : Binds K fdI ["self", "name", "left", "right"] [] := FI.bindsN fun _ _ _ _ _ _ us hl => match us, hl with | [_, _, _, _], _ => rfl
  refine F.ok scSame (fun vs H Q E h => ?_) (fun cdv A outer s H vs Q E hr h => ?_)
  · obtain ⟨x, dx, f1, f2, v1, v2, l1, l2, rfl, _⟩ := h
    rfl
  · obtain ⟨x, dx, f1, f2, v1, v2, l1, l2, rfl, hx, h1, h2, le1, le2, q⟩ := h
    refine ⟨_, PSs.nox (pss_cons (ps_expr (pe_cfn (pe_glob rfl gS (v := .ref CS) rfl) cS GI hr FI.kp bI pass0 (pa_cons (pv 0) (pa_cons pe_str (pa_cons (pv 1) (pa_cons (pv 2) pa_nil)))))) pss_nil), ?_⟩
    refine Rd.cfn ?_
    walk_at "rd"
    refine ⟨x, dx, 3, f1, f2, v1, v2, l1, l2, rfl, hx, h1, h2, le1, le2, fun H1 b1 e1 z1 => ?_⟩
    walk_at "rd"
    exact q H1 b1 e1 z1
end
end K12

namespace K12
open PySem PySem.Spec PyProof.Rows L2
local macro_rules | `(tactic| walk_at "rd1") => `(tactic| first
  | (with_reducible refine Rd.seq ?_) | (with_reducible refine Rd.asg ?_) | (with_reducible refine Rd.ret ?_) | (with_reducible refine Rd.nxt ?_) | (with_reducible refine Rd.ifS ?_)
  | (with_reducible refine Rd.op ?_) | (with_reducible refine Rd.un ?_) | (with_reducible refine Rd.cb ?_) | (with_reducible refine Rd.cons ?_) | (with_reducible refine Rd.nil ?_) | (with_reducible refine Rd.ifx ?_)
  | (with_reducible refine Rd.test ?_) | (with_reducible refine Rd.testB ?_) | (with_reducible refine Rd.notT ?_) | (with_reducible refine Rd.isB ?_) | (with_reducible refine Rd.lst ?_) | (with_reducible refine Rd.tup ?_)
  | (with_reducible refine Rd.andV ?_) | (with_reducible refine Rd.orV ?_) | (with_reducible refine Rd.notV ?_) | (with_reducible refine Rd.andT ?_) | (with_reducible refine Rd.orT ?_) | (with_reducible refine Rd.chain ?_)
  | (with_reducible refine Rd.m0 ?_) | (with_reducible refine Rd.m1 ?_) | (with_reducible refine Rd.bm0 ?_) | (with_reducible refine Rd.bm ?_) | (with_reducible refine Rd.sl ?_) | (with_reducible refine Rd.part ?_) | (with_reducible refine Rd.part0 ?_) | (with_reducible refine Rd.isI ?_)
  | (with_reducible refine Rd.fmt ?_) | (with_reducible refine Rd.fmtRD ?_) | (with_reducible refine Rd.meth ?_) | (with_reducible refine Rd.make ?_) | (with_reducible refine Rd.prop ?_) | (with_reducible refine Rd.js ?_) | (with_reducible refine Rd.js0 ?_) | (with_reducible refine Rd.par ?_) | (with_reducible refine Rd.star ?_) | (with_reducible refine lcR1 ?_) | (with_reducible refine lcR2 ?_) | (with_reducible refine Rd.fld ?_) | (with_reducible refine Rd.sfld ?_) | (with_reducible refine Rd.expr ?_) | (with_reducible refine L2.isNR ?_) | (with_reducible refine L2.methI ?_) | (with_reducible refine Rd.forZ ?_)
  | (with_reducible refine Rd.forEA ?_) | (with_reducible refine Rd.forR1 ?_) | (with_reducible refine Rd.forR2 ?_) | (with_reducible refine Rd.forL ?_) | (with_reducible refine Rd.forT ?_)
  | (with_reducible refine Rd.call ?_) | (with_reducible refine Rd.asgG ?_) | (with_reducible refine Rd.gNm ?_) | (with_reducible refine Rd.gSb ?_) | (with_reducible refine Rd.gC ?_) | (with_reducible refine Rd.gN ?_)
  | ((with_reducible refine' Rd.var ?hv ?_); (case hv => exact rfl)) | (with_reducible refine Rd.c ?_) | (with_reducible refine Rd.i0 ?_) | (with_reducible refine Rd.neg ?_)
  | ((with_reducible refine' Rd.iC ?hc ?_); (case hc => first | (show (0 : Int) < _; decide) | exact ⟨by decide, by decide⟩ | exact ⟨by decide, by decide, by decide⟩ | exact .inl ⟨by decide, by decide⟩ | exact .inr ⟨by decide, by decide⟩ | exact .inl ⟨by omega, by omega⟩ | (show (0 : Int) < _; omega) | exact ⟨by omega, by omega⟩))
  | ((with_reducible refine' Rd.eqS ?hc ?_); (case hc => rfl)) | ((with_reducible refine' Rd.neS ?hc ?_); (case hc => rfl)))
local macro_rules | `(tactic| walk_at "rd") => `(tactic| repeat walk_at "rd1")
/-! ### listed numbers -/
theorem seq_ty {K : PySem.W.Frag} {H : Hp} {a : Addr} {xs : List V} (h : SqT K H a xs) : TyX K H (.ref a) (.type "tuple") := by
  rcases h with h | ⟨o, its, n, h, hc, hd, _⟩
  · rcases h with h | ⟨o, h⟩
    · exact .base (.tup h)
    · exact .fTuple h
  · exact .kTuple h hc
theorem seqL_ty {K : PySem.W.Frag} {H : Hp} {a : Addr} {xs : List V} (h : SqL K H a xs) : TyX K H (.ref a) (.type "list") := by
  rcases h with h | ⟨o, its, n, h, hc, hd, _⟩
  · rcases h with h | ⟨o, h⟩
    · exact .base (.lst h)
    · exact .base (.frz h)
  · exact .kList h hc
/-- a list or a tuple -/
def Sv (K : PySem.W.Frag) (H : Hp) (a : Addr) (l : List V) : Prop := SqL K H a l ∨ SqT K H a l
theorem Sv.same {K : PySem.W.Frag} {H H' : Hp} {a : Addr} {l : List V} (h : Sv K H a l) (s : Same H H') : Sv K H' a l := h.imp (fun z => z.ext s) (fun z => z.ext s)
def spIsList (K : PySem.W.Frag) : Sp := fun vs H Q _ => ∃ (a : Addr) (l : List V), vs = [.ref a] ∧ Sv K H a l ∧ ∀ H', Same H H' → Q (.bl true) H'
def leastAt (s : List Nat) : Nat → Nat
  | 0 => 0
  | i + 1 => s.getD i 0 + 1
/-- they rise, none is above 8 -/
structure Asc (s : List Nat) : Prop where
  at_ : ∀ (i n : Nat), s[i]? = some n → leastAt s i ≤ n ∧ n ≤ 8
  few : s.length ≤ 9
def spChosen (K : PySem.W.Frag) : Sp := fun vs H Q _ => ∃ (a : Addr) (s : List Nat), vs = [.ref a] ∧ Sv K H a (s.map natV) ∧ Asc s ∧ ∀ H', Same H H' → Q (.bl true) H'
abbrev sIsList : Stmt := topA iis_list
abbrev sChosen : Stmt := topA iis_chosen
abbrev sInitC : Stmt := sMeth iChoice 0
def spCho (K : PySem.W.Frag) (c : Cs) : Sp := fun args H Q _ => ∃ (x dx a : Addr) (s : List Nat) (f1 f2 f3 : Fm) (v1 v2 v3 : V) (l1 l2 l3 : List V), args = [.ref x, v1, .ref a, v2, v3] ∧ H x = some (.ins c.cho dx []) ∧ FmAt K c H f1 v1 l1 ∧ FmAt K c H f2 v2 l2 ∧ FmAt K c H f3 v3 l3 ∧ Sv K H a (s.map natV) ∧ Asc s ∧
  (Fm.cho f1 s f2 f3).q.1 ≤ 40 ∧ (Fm.cho f1 s f2 f3).q.2 ≤ 8 ∧ ∀ H', But x H H' → FmAt K c H' (.cho f1 s f2 f3) (.ref x) (.ref x :: (l1 ++ (l2 ++ l3))) → SqNon H' (.ref x) → Q .non H'
theorem at_nat {s : List Nat} {i : Nat} {v : V} (h : (s.map natV)[i]? = some v) : ∃ n, s[i]? = some n ∧ v = .int (n : Nat) := by
  rw [List.getElem?_map] at h
  cases e : s[i]? with
  | none => rw [e] at h; cases h
  | some x => rw [e] at h; cases h; exact ⟨x, rfl, rfl⟩
theorem least_next {s : List Nat} {i n : Nat} (h : s[i]? = some n) : leastAt s (i + 1) = n + 1 := by
  show s.getD i 0 + 1 = n + 1
  rw [List.getD_eq_getElem?_getD, h]
  rfl
/-- tuple(x) of a list or a tuple -/
def rTupV (K : PySem.W.Frag) : List V → Hp → VK → Prop := fun xs H Q => ∃ (a : Addr) (l : List V), xs = [.ref a] ∧ Sv K H a l ∧ ∀ (p : Addr) (H' : Hp), Same H H' → SqT K H' p l → Q (.ref p) H'
theorem call_tupV {X : Cx} : CallR X (.type "tuple") (rTupV X.K) := by
  intro pins s σ H xs us Q I r h
  obtain ⟨a, l, rfl, h, q⟩ := h
  refine call_tuple_of pins s σ H [.ref a] us Q I r ⟨a, l, rfl, ?_⟩
  rcases h with h | h
  · exact .inl ⟨h, fun p hp => q p _ (same_new hp) (SqT.of upd_same)⟩
  · exact .inr ⟨h, q a H (Same.refl _) h⟩
section
variable {P : Program} {w : World} {K : PySem.W.Frag} {mg : Str → Option Value} {base : Heap} {c : Cs} {f fB fL fI fG cc : Addr} {fd fdB fdL fdI fdG : FuncData}
theorem scIsList : FnScope ["value"] ["value"] (defScope sIsList) := ⟨rfl, rfl, rfl, by decide +kernel, rfl, by decide +kernel, by decide +kernel⟩
theorem ok_isList (F : FnP K "is_list" sIsList f fd) (gIs : mg "isinstance" = none) (gL : mg "list" = none) (gT : mg "tuple" = none) : FnOk P w K mg base CX0 1 f fd ["value"] (spIsList K) := by
  refine F.ok scIsList (fun vs H Q E h => ?_) (fun cdv A outer s H vs Q E hr h => ?_)
  · obtain ⟨a, l, rfl, _⟩ := h
    rfl
  · obtain ⟨a, l, rfl, hS, q⟩ := h
    refine ⟨_, PSs.nox (pss_one (ps_ret (pe_callB call_isiT rfl gIs (by decide +kernel) (pa_cons (pv 0) (pa_cons (pe_tup (pa_cons (pe_bltn rfl gL (by decide +kernel) (v := .ty "list") rfl) (pa_cons (pe_bltn rfl gT (by decide +kernel) (v := .ty "tuple") rfl) pa_nil))) pa_nil))))), ?_⟩
    walk_at "rd"
    refine ⟨Rd.small (by show 2 ≤ 100000; decide), fun p hp => ?_⟩
    walk_at "rd"
    have sm := same_new (o := HO.tup [V.ty "list", V.ty "tuple"]) hp
    rcases hS with hS | hS
    · exact ⟨_, p, [V.ty "list", V.ty "tuple"], .type "list", [.type "list", .type "tuple"], true, rfl, upd_same, .cons (.ty _) (.cons (.ty _) .nil), seqL_ty (hS.ext sm), kitAny_cons (b := true) (kit_ty (by decide +kernel)) (fun z => nomatch z) (fun _ => rfl), q _ sm⟩
    · exact ⟨_, p, [V.ty "list", V.ty "tuple"], .type "tuple", [.type "list", .type "tuple"], true, rfl, upd_same, .cons (.ty _) (.cons (.ty _) .nil), seq_ty (hS.ext sm), kitAny_cons (b := false) (kit_ty (by decide +kernel)) (fun _ => kitAny_cons (b := true) (kit_ty (by decide +kernel)) (fun z => nomatch z) (fun _ => rfl)) (fun z => nomatch z), q _ sm⟩
theorem scChosen : FnScope ["value", "least", "number"] ["value"] (defScope sChosen) := ⟨rfl, rfl, rfl, by decide +kernel, rfl, by decide +kernel, by decide +kernel⟩
theorem ok_chosen (F : FnP K "is_chosen" sChosen f fd) (FL : FnP K "is_list" sIsList fL fdL) (FB : FnP K "is_between" sBetween fB fdB) (GL : FnOk P w K mg base CX0 1 fL fdL ["value"] (spIsList K)) (GB : FnOk P w K mg base CX0 1 fB fdB ["value", "low", "high"] spBetween)
    (gL : mg "is_list" = some (.ref fL)) (gB : mg "is_between" = some (.ref fB)) (T : Gf mg) : FnOk P w K mg base CX0 2 f fd ["value"] (spChosen K) := by
  have bL : Binds K fdL ["value"] [] := FL.bindsN fun _ _ _ _ _ _ us hl => match us, hl with | [_], _ => rfl
  have bB : Binds K fdB ["value", "low", "high"] [] := FB.bindsN fun _ _ _ _ _ _ us hl => match us, hl with | [_, _, _], _ => rfl
  obtain ⟨t3, gG⟩ := T.gn
  refine F.ok scChosen (fun vs H Q E h => ?_) (fun cdv A outer s H vs Q E hr h => ?_)
  · obtain ⟨a, l, rfl, _⟩ := h
    rfl
  · obtain ⟨a, sv, rfl, hS, asc, q⟩ := h
    rcases hS with hS | hS
    · refine ⟨_, PSs.nox (pss_cons (ps_if (pt_not (pt_val (pe_call GL (hr.mono (by decide)) rfl gL FL.kp bL .nil pass0 (pa_cons (pv 0) pa_nil)))) (pss_one (ps_ret pe_bl)) pss_nil) (pss_cons (ps_set (i := 1) scChosen.nd rfl (Or.inl rfl) pe_int)
        (pss_cons (ps_for PassesOwn.never rfl (pi_list (pv 0)) (pg_name (i := 2) scChosen.nd rfl (Or.inl rfl))
          (pss_cons (ps_if (pt_not (pt_val (pe_call GB hr rfl gB FB.kp bB .nil pass0 (pa_cons (pv 2) (pa_cons (pv 1) (pa_cons (pe_glob rfl gG (v := .int 8) ⟨_, rfl⟩) pa_nil)))))) (pss_one (ps_ret pe_bl)) pss_nil)
          (pss_one (ps_set (i := 1) scChosen.nd rfl (Or.inl rfl) (pe_op op_add (pv 2) pe_int)))))
        (pss_one (ps_ret pe_bl))))), ?_⟩
      walk_at "rd"
      refine ⟨a, _, rfl, .inl hS, fun H1 s1 => ?_⟩
      walk_at "rd"
      refine iteF ?_
      walk_at "rd"
      have h1 := hS.ext s1
      refine ⟨a, rfl, ⟨_, h1⟩, ?_⟩
      refine for_it walk_list (fun i σ H' => (∃ b, σ = [some (.ref a), some (.int (leastAt sv i : Nat)), b]) ∧ H' = H1) ⟨⟨_, rfl⟩, rfl⟩ (fun i σ H' _ z => by rw [z.2]; exact h1) (fun i v σ H2 H3 hi hy z => ?_) (fun σ H' z => ?_)
      · obtain ⟨⟨b, rfl⟩, rfl⟩ := hy
        obtain ⟨rfl, ev⟩ := z
        obtain ⟨n, en, rfl⟩ := at_nat ev
        obtain ⟨lo, hi⟩ := asc.at_ i n en
        walk_at "rd"
        refine ⟨_, _, _, rfl, ?_⟩
        rw [decide_eq_true (show ((leastAt sv i : Nat) : Int) ≤ (n : Nat) by omega), decide_eq_true (show ((n : Nat) : Int) ≤ 8 by omega)]
        walk_at "rd"
        refine iteF ?_
        walk_at "rd"
        refine ⟨⟨some (.int (n : Nat)), ?_⟩, rfl⟩
        rw [least_next en, Int.natCast_add]
        rfl
      · obtain ⟨⟨b, rfl⟩, rfl⟩ := z
        walk_at "rd"
        exact q _ s1
    · refine ⟨_, PSs.nox (pss_cons (ps_if (pt_not (pt_val (pe_call GL (hr.mono (by decide)) rfl gL FL.kp bL .nil pass0 (pa_cons (pv 0) pa_nil)))) (pss_one (ps_ret pe_bl)) pss_nil) (pss_cons (ps_set (i := 1) scChosen.nd rfl (Or.inl rfl) pe_int)
        (pss_cons (ps_for PassesOwn.never rfl (pi_tup (pv 0)) (pg_name (i := 2) scChosen.nd rfl (Or.inl rfl))
          (pss_cons (ps_if (pt_not (pt_val (pe_call GB hr rfl gB FB.kp bB .nil pass0 (pa_cons (pv 2) (pa_cons (pv 1) (pa_cons (pe_glob rfl gG (v := .int 8) ⟨_, rfl⟩) pa_nil)))))) (pss_one (ps_ret pe_bl)) pss_nil)
          (pss_one (ps_set (i := 1) scChosen.nd rfl (Or.inl rfl) (pe_op op_add (pv 2) pe_int)))))
        (pss_one (ps_ret pe_bl))))), ?_⟩
      walk_at "rd"
      refine ⟨a, _, rfl, .inr hS, fun H1 s1 => ?_⟩
      walk_at "rd"
      refine iteF ?_
      walk_at "rd"
      have h1 := hS.ext s1
      refine ⟨a, rfl, ⟨_, h1⟩, ?_⟩
      refine for_it walk_tup (fun i σ H' => (∃ b, σ = [some (.ref a), some (.int (leastAt sv i : Nat)), b]) ∧ H' = H1) ⟨⟨_, rfl⟩, rfl⟩ (fun i σ H' _ z => by rw [z.2]; exact h1) (fun i v σ H2 H3 hi hy z => ?_) (fun σ H' z => ?_)
      · obtain ⟨⟨b, rfl⟩, rfl⟩ := hy
        obtain ⟨rfl, ev⟩ := z
        obtain ⟨n, en, rfl⟩ := at_nat ev
        obtain ⟨lo, hi⟩ := asc.at_ i n en
        walk_at "rd"
        refine ⟨_, _, _, rfl, ?_⟩
        rw [decide_eq_true (show ((leastAt sv i : Nat) : Int) ≤ (n : Nat) by omega), decide_eq_true (show ((n : Nat) : Int) ≤ 8 by omega)]
        walk_at "rd"
        refine iteF ?_
        walk_at "rd"
        refine ⟨⟨some (.int (n : Nat)), ?_⟩, rfl⟩
        rw [least_next en, Int.natCast_add]
        rfl
      · obtain ⟨⟨b, rfl⟩, rfl⟩ := z
        walk_at "rd"
        exact q _ s1
/-! ### choices -/
theorem scCho : FnScope ["self", "test", "chosen", "then", "other", "listed"] ["self", "test", "chosen", "then", "other"] (defScope sInitC) := ⟨rfl, rfl, rfl, by decide +kernel, rfl, by decide +kernel, by decide +kernel⟩
theorem ok_cho (F : FunD K "__init__" "Choice.__init__" (defArgs sInitC) (defBody sInitC) (defScope sInitC) [] [] f fd) (T : Cl K c)
    (FI : FunD K "__init__" "Formula.__init__" (defArgs sInitF) (defBody sInitF) (defScope sInitF) [] [] fI fdI) {CS : Addr} (gS : mg "Formula" = some (.ref CS)) (cS : CFn K CS "__init__" fI) (GI : FnOk P w K mg base CX0 1 fI fdI ["self", "name", "given", "parts"] (spInitF K))
    (FB : FnP K "_check_formula" sCheckF fB fdB) (GB : FnOk P w K mg base CX0 1 fB fdB ["value"] (spCheckF K c)) (gB : mg "_check_formula" = some (.ref fB))
    (FG : FnP K "is_chosen" sChosen fG fdG) (GG : FnOk P w K mg base CX0 2 fG fdG ["value"] (spChosen K)) (gG : mg "is_chosen" = some (.ref fG)) (gTup : mg "tuple" = none) : FnOk P w K mg base CX0 3 f fd ["self", "test", "chosen", "then", "other"] (spCho K c) := by
  have bI : Binds K fdI ["self", "name", "given", "parts"] [] := FI.bindsN fun _ _ _ _ _ _ us hl => match us, hl with | [_, _, _, _], _ => rfl
  have bB : Binds K fdB ["value"] [] := FB.bindsN fun _ _ _ _ _ _ us hl => match us, hl with | [_], _ => rfl
  have bG : Binds K fdG ["value"] [] := FG.bindsN fun _ _ _ _ _ _ us hl => match us, hl with | [_], _ => rfl
  refine F.ok scCho (fun vs H Q E h => ?_) (fun cdv A outer s H vs Q E hr h => ?_)
  · obtain ⟨x, dx, a, sv, f1, f2, f3, v1, v2, v3, l1, l2, l3, rfl, _⟩ := h
    rfl
  · obtain ⟨x, dx, a, sv, f1, f2, f3, v1, v2, v3, l1, l2, l3, rfl, hx, h1, h2, h3, hS, asc, le1, le2, q⟩ := h
    have fc := T.cho
    have hr1 := hr.mono (show 1 ≤ 2 by decide)
    refine ⟨_, PSs.nox (pss_cons (ps_expr (pe_call GB hr1 rfl gB FB.kp bB .nil pass0 (pa_cons (pv 1) pa_nil))) (pss_cons (ps_if (pt_not (pt_val (pe_call GG hr rfl gG FG.kp bG .nil pass0 (pa_cons (pv 2) pa_nil)))) (pss_one ps_never) pss_nil)
      (pss_cons (ps_expr (pe_call GB hr1 rfl gB FB.kp bB .nil pass0 (pa_cons (pv 3) pa_nil))) (pss_cons (ps_expr (pe_call GB hr1 rfl gB FB.kp bB .nil pass0 (pa_cons (pv 4) pa_nil)))
      (pss_cons (ps_set (i := 5) scCho.nd rfl (Or.inl rfl) (pe_callTy call_tupV rfl gTup (by decide +kernel) (pa_cons (pv 2) pa_nil)))
      (pss_cons (ps_expr (pe_cfn (pe_glob rfl gS (v := .ref CS) rfl) cS GI hr1 FI.kp bI pass0 (pa_cons (pv 0) (pa_cons pe_str (pa_cons (pe_tup (pa_cons (pv 1) (pa_cons (pv 5) (pa_cons (pv 3) (pa_cons (pv 4) pa_nil))))) (pa_cons (pe_tup (pa_cons (pv 1) (pa_cons (pv 3) (pa_cons (pv 4) pa_nil)))) pa_nil))))))
      (pss_cons (ps_fld (pv 0) (pv 1) rfl) (pss_cons (ps_fld (pv 0) (pv 5) rfl) (pss_cons (ps_fld (pv 0) (pv 3) rfl) (pss_one (ps_fld (pv 0) (pv 4) rfl))))))))))), ?_⟩
    walk_at "rd"
    refine ⟨f1, v1, l1, rfl, h1, ?_⟩
    walk_at "rd"
    refine ⟨a, sv, rfl, hS, asc, fun Ha sa => ?_⟩
    walk_at "rd"
    refine iteF ?_
    walk_at "rd"
    refine ⟨f2, v2, l2, rfl, h2.kp (kp_same sa), ?_⟩
    walk_at "rd"
    refine ⟨f3, v3, l3, rfl, h3.kp (kp_same sa), ?_⟩
    walk_at "rd"
    refine ⟨a, _, rfl, hS.same sa, fun t H0 s0 ht => ?_⟩
    walk_at "rd"
    have sa0 := sa.trans s0
    have x0 := sa0 _ _ hx
    refine Rd.cfn ?_
    walk_at "rd"
    refine ⟨Rd.small (by show 4 ≤ 100000; decide), fun g n1 => ?_⟩
    have s1 := same_new (o := HO.tup ([v1, .ref t, v2, v3])) n1
    have t1 := upd_same (H := H0) (a := g) (o := HO.tup ([v1, .ref t, v2, v3]))
    generalize upd H0 g (HO.tup ([v1, .ref t, v2, v3])) = H1 at s1 t1 ⊢
    walk_at "rd"
    refine ⟨Rd.small (by show 3 ≤ 100000; decide), fun p n2 => ?_⟩
    have s2 := same_new (o := HO.tup ([v1, v2, v3])) n2
    have t2 := upd_same (H := H1) (a := p) (o := HO.tup ([v1, v2, v3]))
    generalize upd H1 p (HO.tup ([v1, v2, v3])) = H2 at s2 t2 ⊢
    walk_at "rd"
    have x2 := s2 _ _ (s1 _ _ x0)
    have sA := sa0.trans (s1.trans s2)
    have p1 := (h1.kp (kp_same sA)).part T
    have p2 := (h2.kp (kp_same sA)).part T
    have p3 := (h3.kp (kp_same sA)).part T
    refine ⟨x, _, dx, g, p, _, _, [f1.q, f2.q, f3.q], rfl, x2, fc, SqT.of t2, ⟨rfl, fun i v h => ?_⟩, le1, le2, fun H3 b3 x3 => ?_⟩
    · match i, h with
      | 0, h => cases h; exact ⟨_, rfl, p1⟩
      | 1, h => cases h; exact ⟨_, rfl, p2⟩
      | 2, h => cases h; exact ⟨_, rfl, p3⟩
    walk_at "rd"
    refine ⟨x, _, dx, _, rfl, x3, fc.cl, fc.no "test", (by show 6 < 1000; decide), ?_⟩
    have x4 := upd_same (H := H3) (a := x) (o := HO.ins c.cho dx (putF "test" v1 (baseFs "Choice" g p (fmN [f1.q, f2.q, f3.q]) (fmD [f1.q, f2.q, f3.q]))))
    have b4 := But.set (p := x) (H := H3) (o := HO.ins c.cho dx (putF "test" v1 (baseFs "Choice" g p (fmN [f1.q, f2.q, f3.q]) (fmD [f1.q, f2.q, f3.q]))))
    generalize upd H3 x (HO.ins c.cho dx (putF "test" v1 (baseFs "Choice" g p (fmN [f1.q, f2.q, f3.q]) (fmD [f1.q, f2.q, f3.q])))) = H4 at x4 b4 ⊢
    walk_at "rd"
    refine ⟨x, _, dx, _, rfl, x4, fc.cl, fc.no "chosen", (by show 7 < 1000; decide), ?_⟩
    have x5 := upd_same (H := H4) (a := x) (o := HO.ins c.cho dx (putF "chosen" (.ref t) (putF "test" v1 (baseFs "Choice" g p (fmN [f1.q, f2.q, f3.q]) (fmD [f1.q, f2.q, f3.q])))))
    have b5 := But.set (p := x) (H := H4) (o := HO.ins c.cho dx (putF "chosen" (.ref t) (putF "test" v1 (baseFs "Choice" g p (fmN [f1.q, f2.q, f3.q]) (fmD [f1.q, f2.q, f3.q])))))
    generalize upd H4 x (HO.ins c.cho dx (putF "chosen" (.ref t) (putF "test" v1 (baseFs "Choice" g p (fmN [f1.q, f2.q, f3.q]) (fmD [f1.q, f2.q, f3.q]))))) = H5 at x5 b5 ⊢
    walk_at "rd"
    refine ⟨x, _, dx, _, rfl, x5, fc.cl, fc.no "then", (by show 8 < 1000; decide), ?_⟩
    have x6 := upd_same (H := H5) (a := x) (o := HO.ins c.cho dx (putF "then" v2 (putF "chosen" (.ref t) (putF "test" v1 (baseFs "Choice" g p (fmN [f1.q, f2.q, f3.q]) (fmD [f1.q, f2.q, f3.q]))))))
    have b6 := But.set (p := x) (H := H5) (o := HO.ins c.cho dx (putF "then" v2 (putF "chosen" (.ref t) (putF "test" v1 (baseFs "Choice" g p (fmN [f1.q, f2.q, f3.q]) (fmD [f1.q, f2.q, f3.q]))))))
    generalize upd H5 x (HO.ins c.cho dx (putF "then" v2 (putF "chosen" (.ref t) (putF "test" v1 (baseFs "Choice" g p (fmN [f1.q, f2.q, f3.q]) (fmD [f1.q, f2.q, f3.q])))))) = H6 at x6 b6 ⊢
    walk_at "rd"
    refine ⟨x, _, dx, _, rfl, x6, fc.cl, fc.no "other", (by show 9 < 1000; decide), ?_⟩
    have x7 := upd_same (H := H6) (a := x) (o := HO.ins c.cho dx (putF "other" v3 (putF "then" v2 (putF "chosen" (.ref t) (putF "test" v1 (baseFs "Choice" g p (fmN [f1.q, f2.q, f3.q]) (fmD [f1.q, f2.q, f3.q])))))))
    have b7 := But.set (p := x) (H := H6) (o := HO.ins c.cho dx (putF "other" v3 (putF "then" v2 (putF "chosen" (.ref t) (putF "test" v1 (baseFs "Choice" g p (fmN [f1.q, f2.q, f3.q]) (fmD [f1.q, f2.q, f3.q])))))))
    generalize upd H6 x (HO.ins c.cho dx (putF "other" v3 (putF "then" v2 (putF "chosen" (.ref t) (putF "test" v1 (baseFs "Choice" g p (fmN [f1.q, f2.q, f3.q]) (fmD [f1.q, f2.q, f3.q]))))))) = H7 at x7 b7 ⊢
    walk_at "rd"
    have b := b3.trans (b4.trans (b5.trans (b6.trans b7)))
    have bb : But x H H7 := fun d o hb e => b d o hb (sA _ _ e)
    have k2 := kp_new x2 b
    have ne : ∀ {o : HO} {b : Addr}, H2 b = some o → (∀ C dx fs, o ≠ .ins C dx fs) → b ≠ x := fun e n z => by
      rw [z, x2] at e
      cases e
      exact n _ _ _ rfl
    have g2 := s2 _ _ t1
    have g7 := b _ _ (ne g2 fun _ _ _ z => by cases z) g2
    have p7 := b _ _ (ne t2 fun _ _ _ z => by cases z) t2
    have k7 := kp_new hx bb
    have t7 := sqt_kp k2 (ht.ext (s1.trans s2))
    exact q H7 bb ⟨v1, l1, v2, l2, v3, l3, rfl, h1.kp k7, h2.kp k7, h3.kp k7, x, dx, _, g, p, t, rfl, x7, ⟨rfl, rfl, rfl, rfl, rfl, ⟨_, rfl, .inl rfl⟩, (by show 10 < 900; decide), rfl⟩, SqT.of g7, SqT.of p7, t7, rfl, rfl, rfl, rfl⟩ ⟨_, _, _, _, rfl, x7, rfl⟩
end
end K12

namespace K12
open PySem PySem.Spec PyProof.Rows L2
/-! ### a new formula -/
def MakeG (C : Addr) (sp : Sp) (dvs : List V) (E : XK) (vs : List V) (H1 : Hp) (Q : VK) : Prop := ∀ x dx, H1 x = none → H1 dx = none → dx ≠ x → sp (.ref x :: (vs ++ dvs)) (upd (upd H1 dx (.own x)) x (.ins C dx [])) (fun v H2 => v = .non ∧ Q (.ref x) H2) E
theorem makeG {C : Addr} {sp : Sp} {dvs : List V} {E : XK} {σ : L2.St} {H : Hp} {t : TA} {Q : VK} (h : t σ H fun vs H1 => MakeG C sp dvs E vs H1 Q) : tMake C sp dvs E t σ H Q := h
local macro_rules | `(tactic| walk_at "rd1") => `(tactic| first
  | (with_reducible refine Rd.seq ?_) | (with_reducible refine Rd.asg ?_) | (with_reducible refine Rd.ret ?_) | (with_reducible refine Rd.nxt ?_) | (with_reducible refine Rd.ifS ?_)
  | (with_reducible refine Rd.op ?_) | (with_reducible refine Rd.un ?_) | (with_reducible refine Rd.cb ?_) | (with_reducible refine Rd.cons ?_) | (with_reducible refine Rd.nil ?_) | (with_reducible refine Rd.ifx ?_)
  | (with_reducible refine Rd.test ?_) | (with_reducible refine Rd.testB ?_) | (with_reducible refine Rd.notT ?_) | (with_reducible refine Rd.isB ?_) | (with_reducible refine Rd.lst ?_) | (with_reducible refine Rd.tup ?_)
  | (with_reducible refine Rd.andV ?_) | (with_reducible refine Rd.orV ?_) | (with_reducible refine Rd.notV ?_) | (with_reducible refine Rd.andT ?_) | (with_reducible refine Rd.orT ?_) | (with_reducible refine Rd.chain ?_)
  | (with_reducible refine Rd.m0 ?_) | (with_reducible refine Rd.m1 ?_) | (with_reducible refine Rd.bm0 ?_) | (with_reducible refine Rd.bm ?_) | (with_reducible refine Rd.sl ?_) | (with_reducible refine Rd.part ?_) | (with_reducible refine Rd.part0 ?_) | (with_reducible refine Rd.isI ?_)
  | (with_reducible refine Rd.fmt ?_) | (with_reducible refine Rd.fmtRD ?_) | (with_reducible refine Rd.meth ?_) | (with_reducible refine makeG ?_) | (with_reducible refine Rd.prop ?_) | (with_reducible refine Rd.js ?_) | (with_reducible refine Rd.js0 ?_) | (with_reducible refine Rd.par ?_) | (with_reducible refine Rd.star ?_) | (with_reducible refine lcR1 ?_) | (with_reducible refine lcR2 ?_) | (with_reducible refine Rd.fld ?_) | (with_reducible refine Rd.sfld ?_) | (with_reducible refine Rd.expr ?_) | (with_reducible refine L2.isNR ?_) | (with_reducible refine L2.methI ?_) | (with_reducible refine Rd.forZ ?_)
  | (with_reducible refine Rd.forEA ?_) | (with_reducible refine Rd.forR1 ?_) | (with_reducible refine Rd.forR2 ?_) | (with_reducible refine Rd.forL ?_) | (with_reducible refine Rd.forT ?_)
  | (with_reducible refine Rd.call ?_) | (with_reducible refine Rd.asgG ?_) | (with_reducible refine Rd.gNm ?_) | (with_reducible refine Rd.gSb ?_) | (with_reducible refine Rd.gC ?_) | (with_reducible refine Rd.gN ?_)
  | ((with_reducible refine' Rd.var ?hv ?_); (case hv => exact rfl)) | (with_reducible refine Rd.c ?_) | (with_reducible refine Rd.i0 ?_) | (with_reducible refine Rd.neg ?_)
  | ((with_reducible refine' Rd.iC ?hc ?_); (case hc => first | (show (0 : Int) < _; decide) | exact ⟨by decide, by decide⟩ | exact ⟨by decide, by decide, by decide⟩ | exact .inl ⟨by decide, by decide⟩ | exact .inr ⟨by decide, by decide⟩ | exact .inl ⟨by omega, by omega⟩ | (show (0 : Int) < _; omega) | exact ⟨by omega, by omega⟩))
  | ((with_reducible refine' Rd.eqS ?hc ?_); (case hc => rfl)) | ((with_reducible refine' Rd.neS ?hc ?_); (case hc => rfl)))
local macro_rules | `(tactic| walk_at "rd") => `(tactic| repeat walk_at "rd1")
theorem same_make {H : Hp} {x dx C : Addr} (nx : H x = none) (nd : H dx = none) (ne : dx ≠ x) : Same H (upd (upd H dx (.own x)) x (.ins C dx [])) :=
  (same_new nd).trans (same_new (by rw [upd_ne ne.symm]; exact nx))
theorem same_but {H H0 H' : Hp} {x : Addr} (s : Same H H0) (nx : H x = none) (b : But x H0 H') : Same H H' := fun c o e => b c o (ne_of_none e nx) (s c o e)
/-- a formula that is new -/
structure New (K : PySem.W.Frag) (c : Cs) (H H' : Hp) (f : Fm) (v : V) (l : List V) : Prop where
  same : Same H H'
  at_ : FmAt K c H' f v l
  new : ∃ x, v = .ref x ∧ H x = none
  sq : SqNon H' v
theorem mkNum {K : PySem.W.Frag} {c : Cs} {H : Hp} {Q : VK} {E : XK} {n : Nat} (hn : n ≤ 8) (q : ∀ v H' l, New K c H H' (.num n) v l → Q v H') : MakeG c.num (spNum K c.num) [] E [.int (n : Nat)] H Q := fun x dx nx nd ne =>
  ⟨x, dx, n, rfl, upd_same, hn, fun H' g p b hx hg hp => ⟨rfl, q (.ref x) H' [.ref x] ⟨same_but (same_make nx nd ne) nx b, ⟨rfl, hn, x, dx, _, g, p, rfl, hx, ⟨rfl, rfl, rfl, rfl, rfl, ⟨_, rfl, .inl rfl⟩, (by show 7 < 900; decide), rfl⟩, hg, hp, rfl⟩, (⟨x, rfl, nx⟩ : ∃ y, V.ref x = .ref y ∧ H y = none), ⟨x, _, _, _, rfl, hx, rfl⟩⟩⟩⟩
theorem mkRef {K : PySem.W.Frag} {c : Cs} {H : Hp} {Q : VK} {E : XK} {w : Nat} {y : Str} (hn : Nam y) (q : ∀ v H' l, New K c H H' (.ref w y) v l → Q v H') : MakeG (c.ref w) (spRefW K c w) [] E [.str y] H Q := fun x dx nx nd ne =>
  ⟨x, dx, y, rfl, upd_same, hn, fun H' b h z => ⟨rfl, q (.ref x) H' [.ref x] ⟨same_but (same_make nx nd ne) nx b, h, ⟨x, rfl, nx⟩, z⟩⟩⟩
theorem mkPair {K : PySem.W.Frag} {c : Cs} {H : Hp} {Q : VK} {E : XK} {o : Nat} {f1 f2 : Fm} {v1 v2 : V} {l1 l2 : List V} (h1 : FmAt K c H f1 v1 l1) (h2 : FmAt K c H f2 v2 l2) (le1 : (Fm.pair o f1 f2).q.1 ≤ 40) (le2 : (Fm.pair o f1 f2).q.2 ≤ 8)
    (q : ∀ v H', New K c H H' (.pair o f1 f2) v (v :: (l1 ++ l2)) → Q v H') : MakeG (c.pair o) (spPair K c o) [] E [v1, v2] H Q := fun x dx nx nd ne =>
  ⟨x, dx, f1, f2, v1, v2, l1, l2, rfl, upd_same, h1.kp (kp_same (same_make nx nd ne)), h2.kp (kp_same (same_make nx nd ne)), le1, le2, fun H' b h z => ⟨rfl, q (.ref x) H' ⟨same_but (same_make nx nd ne) nx b, h, ⟨x, rfl, nx⟩, z⟩⟩⟩
theorem mkCho {K : PySem.W.Frag} {c : Cs} {H : Hp} {Q : VK} {E : XK} {a : Addr} {s : List Nat} {f1 f2 f3 : Fm} {v1 v2 v3 : V} {l1 l2 l3 : List V} (h1 : FmAt K c H f1 v1 l1) (h2 : FmAt K c H f2 v2 l2) (h3 : FmAt K c H f3 v3 l3) (hS : Sv K H a (s.map natV)) (asc : Asc s) (le1 : (Fm.cho f1 s f2 f3).q.1 ≤ 40) (le2 : (Fm.cho f1 s f2 f3).q.2 ≤ 8)
    (q : ∀ v H', New K c H H' (.cho f1 s f2 f3) v (v :: (l1 ++ (l2 ++ l3))) → Q v H') : MakeG c.cho (spCho K c) [] E [v1, .ref a, v2, v3] H Q := fun x dx nx nd ne =>
  ⟨x, dx, a, s, f1, f2, f3, v1, v2, v3, l1, l2, l3, rfl, upd_same, h1.kp (kp_same (same_make nx nd ne)), h2.kp (kp_same (same_make nx nd ne)), h3.kp (kp_same (same_make nx nd ne)), hS.same (same_make nx nd ne), asc, le1, le2,
    fun H' b h z => ⟨rfl, q (.ref x) H' ⟨same_but (same_make nx nd ne) nx b, h, ⟨x, rfl, nx⟩, z⟩⟩⟩
/-- one class that can be called -/
structure Ctor (P : Program) (w : World) (K : PySem.W.Frag) (mg : Str → Option Value) (base : Heap) (x : Str) (C f : Addr) (fd : FuncData) (ps : List Str) (sp : Sp) : Prop where
  g : mg x = some (.ref C)
  mkr : Mk K C f
  ok : FnOk P w K mg base CX0 3 f fd ps sp
  b : Binds K fd ps []
structure Mks (P : Program) (w : World) (K : PySem.W.Frag) (mg : Str → Option Value) (base : Heap) (c : Cs) : Prop where
  num : ∃ f fd, Ctor P w K mg base "Number" c.num f fd ["self", "value"] (spNum K c.num)
  ref : ∀ i, i < 3 → ∃ f fd, Ctor P w K mg base (refName i) (c.ref i) f fd ["self", "column"] (spRefW K c i)
  pair : ∀ i, i < 4 → ∃ f fd, Ctor P w K mg base (pairName i) (c.pair i) f fd ["self", "left", "right"] (spPair K c i)
  cho : ∃ f fd, Ctor P w K mg base "Choice" c.cho f fd ["self", "test", "chosen", "then", "other"] (spCho K c)
/-! ### the law's own formulas: tuples -/
def pairWord : Nat → Str
  | 0 => "plus"
  | 1 => "least"
  | 2 => "most"
  | _ => "same"
def TpAt (K : PySem.W.Frag) (H : Hp) : Fm → V → Prop
  | .num n, v => ∃ a, v = .ref a ∧ SqT K H a [.str "number", .int (n : Nat)]
  | .ref w x, v => ∃ a, v = .ref a ∧ SqT K H a [.str (refWhere w), .str x]
  | .pair o f1 f2, v => ∃ a v1 v2, v = .ref a ∧ SqT K H a [.str (pairWord o), v1, v2] ∧ TpAt K H f1 v1 ∧ TpAt K H f2 v2
  | .cho f1 s f2 f3, v => ∃ a v1 t v2 v3, v = .ref a ∧ SqT K H a [.str "choice", v1, .ref t, v2, v3] ∧ TpAt K H f1 v1 ∧ SqT K H t (s.map natV) ∧ TpAt K H f2 v2 ∧ TpAt K H f3 v3
theorem TpAt.kp {K : PySem.W.Frag} {H H' : Hp} (k : Kp H H') : ∀ {f : Fm} {v : V}, TpAt K H f v → TpAt K H' f v
  | .num n, v, ⟨a, e, h⟩ => ⟨a, e, sqt_kp k h⟩
  | .ref w x, v, ⟨a, e, h⟩ => ⟨a, e, sqt_kp k h⟩
  | .pair o f1 f2, v, ⟨a, v1, v2, e, h, h1, h2⟩ => ⟨a, v1, v2, e, sqt_kp k h, TpAt.kp k h1, TpAt.kp k h2⟩
  | .cho f1 s f2 f3, v, ⟨a, v1, t, v2, v3, e, h, h1, h2, h3, h4⟩ => ⟨a, v1, t, v2, v3, e, sqt_kp k h, TpAt.kp k h1, sqt_kp k h2, TpAt.kp k h3, TpAt.kp k h4⟩
def Okf : Fm → Prop
  | .num n => n ≤ 8
  | .ref w x => w < 3 ∧ Nam x
  | .pair o l r => o < 4 ∧ Okf l ∧ Okf r
  | .cho t s a b => Asc s ∧ Okf t ∧ Okf a ∧ Okf b
def Fm.ht : Fm → Nat
  | .num _ => 1
  | .ref _ _ => 1
  | .pair _ l r => max l.ht r.ht + 1
  | .cho t _ a b => max t.ht (max a.ht b.ht) + 1
def Fits (f : Fm) : Prop := f.q.1 ≤ 40 ∧ f.q.2 ≤ 8
theorem Fits.pair {o : Nat} {l r : Fm} (h : Fits (.pair o l r)) : Fits l ∧ Fits r := by
  unfold Fits Fm.q fmN fmD at h
  simp only [List.foldl] at h
  unfold Fits
  split at h <;> refine ⟨⟨?_, ?_⟩, ?_, ?_⟩ <;> split at h <;> omega
theorem Fits.cho {s : List Nat} {t a b : Fm} (h : Fits (.cho t s a b)) : Fits t ∧ Fits a ∧ Fits b := by
  unfold Fits Fm.q fmN fmD at h
  simp only [List.foldl] at h
  unfold Fits
  split at h <;> refine ⟨⟨?_, ?_⟩, ⟨?_, ?_⟩, ?_, ?_⟩ <;> split at h <;> split at h <;> omega
theorem ifD {p A B : Prop} [Decidable p] (hp : p) (h : A) : if decide p = true then A else B := by rw [if_pos (decide_eq_true hp)]; exact h
theorem ifN {p A B : Prop} [Decidable p] (hp : ¬ p) (h : B) : if decide p = true then A else B := by rw [if_neg (by rw [decide_eq_false hp]; decide)]; exact h
def spLF (K : PySem.W.Frag) (c : Cs) (n : Nat) : Sp := fun vs H Q _ => ∃ (f : Fm) (v : V), vs = [v] ∧ TpAt K H f v ∧ Okf f ∧ f.ht ≤ n ∧ Fits f ∧ ∀ v' H' l, New K c H H' f v' l → Q v' H'
abbrev sLF : Stmt := topA i_law_formula
section
variable {P : Program} {w : World} {K : PySem.W.Frag} {mg : Str → Option Value} {base : Heap} {c : Cs} {f : Addr} {fd : FuncData}
theorem scLF : FnScope ["_law_part_here", "_law_left", "_law_right_here"] ["_law_part_here"] (defScope sLF) := ⟨rfl, rfl, rfl, by decide +kernel, rfl, by decide +kernel, by decide +kernel⟩
theorem ok_lf (F : FnP K "_law_formula" sLF f fd) (M : Mks P w K mg base c) (gF : mg "_law_formula" = some (.ref f)) : ∀ n, FnOk P w K mg base CX0 (n + 5) f fd ["_law_part_here"] (spLF K c n) := by
  have bF : Binds K fd ["_law_part_here"] [] := F.bindsN fun _ _ _ _ _ _ us hl => match us, hl with | [_], _ => rfl
  obtain ⟨fN, fdN, cN⟩ := M.num
  obtain ⟨f0, fd0, c0⟩ := M.ref 0 (by decide)
  obtain ⟨f1, fd1, c1⟩ := M.ref 1 (by decide)
  obtain ⟨f2, fd2, c2⟩ := M.ref 2 (by decide)
  obtain ⟨fp, fdp, cp⟩ := M.pair 0 (by decide)
  obtain ⟨fl, fdl, cl⟩ := M.pair 1 (by decide)
  obtain ⟨fm, fdm, cm⟩ := M.pair 2 (by decide)
  obtain ⟨fs, fds, cs⟩ := M.pair 3 (by decide)
  obtain ⟨fC, fdC, cC⟩ := M.cho
  intro n
  induction n with
  | zero =>
    refine F.ok scLF (fun vs H Q E h => ?_) (fun cdv A outer s H vs Q E hr h => ?_)
    · obtain ⟨g, v, rfl, _⟩ := h
      rfl
    · obtain ⟨g, v, rfl, _, _, ht, _⟩ := h
      cases g <;> simp [Fm.ht] at ht
  | succ n ih =>
    refine F.ok scLF (fun vs H Q E h => ?_) (fun cdv A outer s H vs Q E hr h => ?_)
    · obtain ⟨g, v, rfl, _⟩ := h
      rfl
    · obtain ⟨g, v, rfl, tp, og, ht, fit, q⟩ := h
      have r4 := hr.mono (show 4 ≤ n + 5 by omega)
      refine ⟨_, PSs.nox (pss_cons (ps_if (pt_cmpR op_eq (pe_ix ix_tup (pv 0) pe_int (fun _ _ => rfl)) pe_str (nomark _)) (pss_one (ps_ret (pe_make cN.mkr cN.ok r4 rfl cN.g cN.b .nil pass0 (pa_cons (pe_ix ix_tup (pv 0) pe_int (fun _ _ => rfl)) pa_nil)))) pss_nil)
        (pss_cons (ps_if (pt_cmpR op_in_seq (pe_ix ix_tup (pv 0) pe_int (fun _ _ => rfl)) (pe_tup (pa_cons pe_str (pa_cons pe_str (pa_cons pe_str pa_nil)))) rfl)
          (pss_one (ps_ret (pe_ifExp (pt_cmpR op_eq (pe_ix ix_tup (pv 0) pe_int (fun _ _ => rfl)) pe_str (nomark _)) (pe_make c0.mkr c0.ok r4 rfl c0.g c0.b .nil pass0 (pa_cons (pe_ix ix_tup (pv 0) pe_int (fun _ _ => rfl)) pa_nil))
            (pe_ifExp (pt_cmpR op_eq (pe_ix ix_tup (pv 0) pe_int (fun _ _ => rfl)) pe_str (nomark _)) (pe_make c1.mkr c1.ok r4 rfl c1.g c1.b .nil pass0 (pa_cons (pe_ix ix_tup (pv 0) pe_int (fun _ _ => rfl)) pa_nil)) (pe_make c2.mkr c2.ok r4 rfl c2.g c2.b .nil pass0 (pa_cons (pe_ix ix_tup (pv 0) pe_int (fun _ _ => rfl)) pa_nil)))))) pss_nil)
        (pss_cons (ps_if (pt_cmpR op_eq (pe_ix ix_tup (pv 0) pe_int (fun _ _ => rfl)) pe_str (nomark _)) (pss_one (ps_ret (pe_make cC.mkr cC.ok r4 rfl cC.g cC.b .nil pass0
            (pa_cons (pe_call ih hr rfl gF F.kp bF .nil pass0 (pa_cons (pe_ix ix_tup (pv 0) pe_int (fun _ _ => rfl)) pa_nil)) (pa_cons (pe_ix ix_tup (pv 0) pe_int (fun _ _ => rfl)) (pa_cons (pe_call ih hr rfl gF F.kp bF .nil pass0 (pa_cons (pe_ix ix_tup (pv 0) pe_int (fun _ _ => rfl)) pa_nil)) (pa_cons (pe_call ih hr rfl gF F.kp bF .nil pass0 (pa_cons (pe_ix ix_tup (pv 0) pe_int (fun _ _ => rfl)) pa_nil)) pa_nil))))))) pss_nil)
        (pss_cons (ps_par (i := 1) (j := 2) (by rfl) scLF.nd rfl rfl (by decide) rfl rfl (pa_cons (pe_call ih hr rfl gF F.kp bF .nil pass0 (pa_cons (pe_ix ix_tup (pv 0) pe_int (fun _ _ => rfl)) pa_nil)) (pa_cons (pe_call ih hr rfl gF F.kp bF .nil pass0 (pa_cons (pe_ix ix_tup (pv 0) pe_int (fun _ _ => rfl)) pa_nil)) pa_nil)) (by rfl))
        (pss_cons (ps_if (pt_cmpR op_eq (pe_ix ix_tup (pv 0) pe_int (fun _ _ => rfl)) pe_str (nomark _)) (pss_one (ps_ret (pe_make cp.mkr cp.ok r4 rfl cp.g cp.b .nil pass0 (pa_cons (pv 1) (pa_cons (pv 2) pa_nil))))) pss_nil)
        (pss_cons (ps_if (pt_cmpR op_eq (pe_ix ix_tup (pv 0) pe_int (fun _ _ => rfl)) pe_str (nomark _)) (pss_one (ps_ret (pe_make cl.mkr cl.ok r4 rfl cl.g cl.b .nil pass0 (pa_cons (pv 1) (pa_cons (pv 2) pa_nil))))) pss_nil)
        (pss_one (ps_ret (pe_ifExp (pt_cmpR op_eq (pe_ix ix_tup (pv 0) pe_int (fun _ _ => rfl)) pe_str (nomark _)) (pe_make cm.mkr cm.ok r4 rfl cm.g cm.b .nil pass0 (pa_cons (pv 1) (pa_cons (pv 2) pa_nil))) (pe_make cs.mkr cs.ok r4 rfl cs.g cs.b .nil pass0 (pa_cons (pv 1) (pa_cons (pv 2) pa_nil)))))))))))), ?_⟩
      cases g with
      | num k =>
        obtain ⟨a, rfl, hs⟩ := tp
        walk_at "rd"
        refine Rd.ixT hs rfl ?_
        walk_at "rd"
        refine ifD rfl ?_
        walk_at "rd"
        refine Rd.ixT hs rfl ?_
        walk_at "rd"
        exact mkNum og q
      | ref wh x =>
        obtain ⟨a, rfl, hs⟩ := tp
        obtain ⟨hw, nx⟩ := og
        have hw : wh = 0 ∨ wh = 1 ∨ wh = 2 := by omega
        rcases hw with rfl | rfl | rfl
        · walk_at "rd"
          refine Rd.ixT hs rfl ?_
          walk_at "rd"
          refine ifN (by decide) ?_
          walk_at "rd"
          refine Rd.ixT hs rfl ?_
          walk_at "rd"
          refine ⟨Rd.small (by show 3 ≤ 100000; decide), fun p3 n3 => ?_⟩
          have s3 := same_new (o := HO.tup ([V.str "here", V.str "up", V.str "down"])) n3
          have t3 := upd_same (H := H) (a := p3) (o := HO.tup ([V.str "here", V.str "up", V.str "down"]))
          generalize upd H p3 (HO.tup ([V.str "here", V.str "up", V.str "down"])) = H1 at s3 t3 ⊢
          walk_at "rd"
          refine ⟨p3, _, rfl, .inr (SqT.of t3), rfl, rfl, ?_⟩
          rw [if_neg (by decide)]
          refine ⟨_, rfl, ?_⟩
          rw [show inV (V.str (refWhere 0)) [V.str "here", V.str "up", V.str "down"] = true from by decide +kernel]
          refine iteT ?_
          walk_at "rd"
          have hs := hs.ext s3
          refine Rd.ixT hs rfl ?_
          walk_at "rd"
          refine ifD rfl ?_
          walk_at "rd"
          refine Rd.ixT hs rfl ?_
          walk_at "rd"
          exact mkRef nx fun v H' l z => q v H' l ⟨s3.trans z.same, z.at_, z.new.imp fun y e => ⟨e.1, s3.free e.2⟩, z.sq⟩
        · walk_at "rd"
          refine Rd.ixT hs rfl ?_
          walk_at "rd"
          refine ifN (by decide) ?_
          walk_at "rd"
          refine Rd.ixT hs rfl ?_
          walk_at "rd"
          refine ⟨Rd.small (by show 3 ≤ 100000; decide), fun p3 n3 => ?_⟩
          have s3 := same_new (o := HO.tup ([V.str "here", V.str "up", V.str "down"])) n3
          have t3 := upd_same (H := H) (a := p3) (o := HO.tup ([V.str "here", V.str "up", V.str "down"]))
          generalize upd H p3 (HO.tup ([V.str "here", V.str "up", V.str "down"])) = H1 at s3 t3 ⊢
          walk_at "rd"
          refine ⟨p3, _, rfl, .inr (SqT.of t3), rfl, rfl, ?_⟩
          rw [if_neg (by decide)]
          refine ⟨_, rfl, ?_⟩
          rw [show inV (V.str (refWhere 1)) [V.str "here", V.str "up", V.str "down"] = true from by decide +kernel]
          refine iteT ?_
          walk_at "rd"
          have hs := hs.ext s3
          refine Rd.ixT hs rfl ?_
          walk_at "rd"
          refine ifN (by decide) ?_
          walk_at "rd"
          refine Rd.ixT hs rfl ?_
          walk_at "rd"
          refine ifD rfl ?_
          walk_at "rd"
          refine Rd.ixT hs rfl ?_
          walk_at "rd"
          exact mkRef nx fun v H' l z => q v H' l ⟨s3.trans z.same, z.at_, z.new.imp fun y e => ⟨e.1, s3.free e.2⟩, z.sq⟩
        · walk_at "rd"
          refine Rd.ixT hs rfl ?_
          walk_at "rd"
          refine ifN (by decide) ?_
          walk_at "rd"
          refine Rd.ixT hs rfl ?_
          walk_at "rd"
          refine ⟨Rd.small (by show 3 ≤ 100000; decide), fun p3 n3 => ?_⟩
          have s3 := same_new (o := HO.tup ([V.str "here", V.str "up", V.str "down"])) n3
          have t3 := upd_same (H := H) (a := p3) (o := HO.tup ([V.str "here", V.str "up", V.str "down"]))
          generalize upd H p3 (HO.tup ([V.str "here", V.str "up", V.str "down"])) = H1 at s3 t3 ⊢
          walk_at "rd"
          refine ⟨p3, _, rfl, .inr (SqT.of t3), rfl, rfl, ?_⟩
          rw [if_neg (by decide)]
          refine ⟨_, rfl, ?_⟩
          rw [show inV (V.str (refWhere 2)) [V.str "here", V.str "up", V.str "down"] = true from by decide +kernel]
          refine iteT ?_
          walk_at "rd"
          have hs := hs.ext s3
          refine Rd.ixT hs rfl ?_
          walk_at "rd"
          refine ifN (by decide) ?_
          walk_at "rd"
          refine Rd.ixT hs rfl ?_
          walk_at "rd"
          refine ifN (by decide) ?_
          walk_at "rd"
          refine Rd.ixT hs rfl ?_
          walk_at "rd"
          exact mkRef nx fun v H' l z => q v H' l ⟨s3.trans z.same, z.at_, z.new.imp fun y e => ⟨e.1, s3.free e.2⟩, z.sq⟩
      | pair o g1 g2 =>
        obtain ⟨a, v1, v2, rfl, hs, t1, t2⟩ := tp
        obtain ⟨ho, o1, o2⟩ := og
        obtain ⟨fit1, fit2⟩ := fit.pair
        have ht : max g1.ht g2.ht + 1 ≤ n + 1 := ht
        have ho : o = 0 ∨ o = 1 ∨ o = 2 ∨ o = 3 := by omega
        rcases ho with rfl | rfl | rfl | rfl
        · walk_at "rd"
          refine Rd.ixT hs rfl ?_
          walk_at "rd"
          refine ifN (by decide) ?_
          walk_at "rd"
          refine Rd.ixT hs rfl ?_
          walk_at "rd"
          refine ⟨Rd.small (by show 3 ≤ 100000; decide), fun p3 n3 => ?_⟩
          have s3 := same_new (o := HO.tup ([V.str "here", V.str "up", V.str "down"])) n3
          have t3 := upd_same (H := H) (a := p3) (o := HO.tup ([V.str "here", V.str "up", V.str "down"]))
          generalize upd H p3 (HO.tup ([V.str "here", V.str "up", V.str "down"])) = H1 at s3 t3 ⊢
          walk_at "rd"
          refine ⟨p3, _, rfl, .inr (SqT.of t3), rfl, rfl, ?_⟩
          rw [if_neg (by decide)]
          refine ⟨_, rfl, ?_⟩
          rw [show inV (V.str (pairWord 0)) [V.str "here", V.str "up", V.str "down"] = false from by decide +kernel]
          refine iteF ?_
          walk_at "rd"
          have hs := hs.ext s3
          refine Rd.ixT hs rfl ?_
          walk_at "rd"
          refine ifN (by decide) ?_
          walk_at "rd"
          refine Rd.ixT hs rfl ?_
          walk_at "rd"
          refine ⟨g1, _, rfl, t1.kp (kp_same s3), o1, by omega, fit1, fun w1 X1 m1 z1 => ?_⟩
          walk_at "rd"
          have hs := hs.ext z1.same
          refine Rd.ixT hs rfl ?_
          walk_at "rd"
          refine ⟨g2, _, rfl, t2.kp (kp_same (s3.trans z1.same)), o2, by omega, fit2, fun w2 X2 m2 z2 => ?_⟩
          walk_at "rd"
          have hs := hs.ext z2.same
          refine ⟨w1, w2, rfl, ?_⟩
          walk_at "rd"
          refine Rd.ixT hs rfl ?_
          walk_at "rd"
          refine ifD rfl ?_
          walk_at "rd"
          have sA := s3.trans (z1.same.trans z2.same)
          exact mkPair (z1.at_.kp (kp_same z2.same)) z2.at_ fit.1 fit.2 fun v H' z => q v H' _ ⟨sA.trans z.same, z.at_, z.new.imp fun y e => ⟨e.1, sA.free e.2⟩, z.sq⟩
        · walk_at "rd"
          refine Rd.ixT hs rfl ?_
          walk_at "rd"
          refine ifN (by decide) ?_
          walk_at "rd"
          refine Rd.ixT hs rfl ?_
          walk_at "rd"
          refine ⟨Rd.small (by show 3 ≤ 100000; decide), fun p3 n3 => ?_⟩
          have s3 := same_new (o := HO.tup ([V.str "here", V.str "up", V.str "down"])) n3
          have t3 := upd_same (H := H) (a := p3) (o := HO.tup ([V.str "here", V.str "up", V.str "down"]))
          generalize upd H p3 (HO.tup ([V.str "here", V.str "up", V.str "down"])) = H1 at s3 t3 ⊢
          walk_at "rd"
          refine ⟨p3, _, rfl, .inr (SqT.of t3), rfl, rfl, ?_⟩
          rw [if_neg (by decide)]
          refine ⟨_, rfl, ?_⟩
          rw [show inV (V.str (pairWord 1)) [V.str "here", V.str "up", V.str "down"] = false from by decide +kernel]
          refine iteF ?_
          walk_at "rd"
          have hs := hs.ext s3
          refine Rd.ixT hs rfl ?_
          walk_at "rd"
          refine ifN (by decide) ?_
          walk_at "rd"
          refine Rd.ixT hs rfl ?_
          walk_at "rd"
          refine ⟨g1, _, rfl, t1.kp (kp_same s3), o1, by omega, fit1, fun w1 X1 m1 z1 => ?_⟩
          walk_at "rd"
          have hs := hs.ext z1.same
          refine Rd.ixT hs rfl ?_
          walk_at "rd"
          refine ⟨g2, _, rfl, t2.kp (kp_same (s3.trans z1.same)), o2, by omega, fit2, fun w2 X2 m2 z2 => ?_⟩
          walk_at "rd"
          have hs := hs.ext z2.same
          refine ⟨w1, w2, rfl, ?_⟩
          walk_at "rd"
          refine Rd.ixT hs rfl ?_
          walk_at "rd"
          refine ifN (by decide) ?_
          walk_at "rd"
          refine Rd.ixT hs rfl ?_
          walk_at "rd"
          refine ifD rfl ?_
          walk_at "rd"
          have sA := s3.trans (z1.same.trans z2.same)
          exact mkPair (z1.at_.kp (kp_same z2.same)) z2.at_ fit.1 fit.2 fun v H' z => q v H' _ ⟨sA.trans z.same, z.at_, z.new.imp fun y e => ⟨e.1, sA.free e.2⟩, z.sq⟩
        · walk_at "rd"
          refine Rd.ixT hs rfl ?_
          walk_at "rd"
          refine ifN (by decide) ?_
          walk_at "rd"
          refine Rd.ixT hs rfl ?_
          walk_at "rd"
          refine ⟨Rd.small (by show 3 ≤ 100000; decide), fun p3 n3 => ?_⟩
          have s3 := same_new (o := HO.tup ([V.str "here", V.str "up", V.str "down"])) n3
          have t3 := upd_same (H := H) (a := p3) (o := HO.tup ([V.str "here", V.str "up", V.str "down"]))
          generalize upd H p3 (HO.tup ([V.str "here", V.str "up", V.str "down"])) = H1 at s3 t3 ⊢
          walk_at "rd"
          refine ⟨p3, _, rfl, .inr (SqT.of t3), rfl, rfl, ?_⟩
          rw [if_neg (by decide)]
          refine ⟨_, rfl, ?_⟩
          rw [show inV (V.str (pairWord 2)) [V.str "here", V.str "up", V.str "down"] = false from by decide +kernel]
          refine iteF ?_
          walk_at "rd"
          have hs := hs.ext s3
          refine Rd.ixT hs rfl ?_
          walk_at "rd"
          refine ifN (by decide) ?_
          walk_at "rd"
          refine Rd.ixT hs rfl ?_
          walk_at "rd"
          refine ⟨g1, _, rfl, t1.kp (kp_same s3), o1, by omega, fit1, fun w1 X1 m1 z1 => ?_⟩
          walk_at "rd"
          have hs := hs.ext z1.same
          refine Rd.ixT hs rfl ?_
          walk_at "rd"
          refine ⟨g2, _, rfl, t2.kp (kp_same (s3.trans z1.same)), o2, by omega, fit2, fun w2 X2 m2 z2 => ?_⟩
          walk_at "rd"
          have hs := hs.ext z2.same
          refine ⟨w1, w2, rfl, ?_⟩
          walk_at "rd"
          refine Rd.ixT hs rfl ?_
          walk_at "rd"
          refine ifN (by decide) ?_
          walk_at "rd"
          refine Rd.ixT hs rfl ?_
          walk_at "rd"
          refine ifN (by decide) ?_
          walk_at "rd"
          refine Rd.ixT hs rfl ?_
          walk_at "rd"
          refine ifD rfl ?_
          walk_at "rd"
          have sA := s3.trans (z1.same.trans z2.same)
          exact mkPair (z1.at_.kp (kp_same z2.same)) z2.at_ fit.1 fit.2 fun v H' z => q v H' _ ⟨sA.trans z.same, z.at_, z.new.imp fun y e => ⟨e.1, sA.free e.2⟩, z.sq⟩
        · walk_at "rd"
          refine Rd.ixT hs rfl ?_
          walk_at "rd"
          refine ifN (by decide) ?_
          walk_at "rd"
          refine Rd.ixT hs rfl ?_
          walk_at "rd"
          refine ⟨Rd.small (by show 3 ≤ 100000; decide), fun p3 n3 => ?_⟩
          have s3 := same_new (o := HO.tup ([V.str "here", V.str "up", V.str "down"])) n3
          have t3 := upd_same (H := H) (a := p3) (o := HO.tup ([V.str "here", V.str "up", V.str "down"]))
          generalize upd H p3 (HO.tup ([V.str "here", V.str "up", V.str "down"])) = H1 at s3 t3 ⊢
          walk_at "rd"
          refine ⟨p3, _, rfl, .inr (SqT.of t3), rfl, rfl, ?_⟩
          rw [if_neg (by decide)]
          refine ⟨_, rfl, ?_⟩
          rw [show inV (V.str (pairWord 3)) [V.str "here", V.str "up", V.str "down"] = false from by decide +kernel]
          refine iteF ?_
          walk_at "rd"
          have hs := hs.ext s3
          refine Rd.ixT hs rfl ?_
          walk_at "rd"
          refine ifN (by decide) ?_
          walk_at "rd"
          refine Rd.ixT hs rfl ?_
          walk_at "rd"
          refine ⟨g1, _, rfl, t1.kp (kp_same s3), o1, by omega, fit1, fun w1 X1 m1 z1 => ?_⟩
          walk_at "rd"
          have hs := hs.ext z1.same
          refine Rd.ixT hs rfl ?_
          walk_at "rd"
          refine ⟨g2, _, rfl, t2.kp (kp_same (s3.trans z1.same)), o2, by omega, fit2, fun w2 X2 m2 z2 => ?_⟩
          walk_at "rd"
          have hs := hs.ext z2.same
          refine ⟨w1, w2, rfl, ?_⟩
          walk_at "rd"
          refine Rd.ixT hs rfl ?_
          walk_at "rd"
          refine ifN (by decide) ?_
          walk_at "rd"
          refine Rd.ixT hs rfl ?_
          walk_at "rd"
          refine ifN (by decide) ?_
          walk_at "rd"
          refine Rd.ixT hs rfl ?_
          walk_at "rd"
          refine ifN (by decide) ?_
          walk_at "rd"
          have sA := s3.trans (z1.same.trans z2.same)
          exact mkPair (z1.at_.kp (kp_same z2.same)) z2.at_ fit.1 fit.2 fun v H' z => q v H' _ ⟨sA.trans z.same, z.at_, z.new.imp fun y e => ⟨e.1, sA.free e.2⟩, z.sq⟩
      | cho g1 s g2 g3 =>
        obtain ⟨a, v1, t, v2, v3, rfl, hs, t1, ts, t2, t3'⟩ := tp
        obtain ⟨asc, o1, o2, o3⟩ := og
        obtain ⟨fit1, fit2, fit3⟩ := fit.cho
        have ht : max g1.ht (max g2.ht g3.ht) + 1 ≤ n + 1 := ht
        walk_at "rd"
        refine Rd.ixT hs rfl ?_
        walk_at "rd"
        refine ifN (by decide) ?_
        walk_at "rd"
        refine Rd.ixT hs rfl ?_
        walk_at "rd"
        refine ⟨Rd.small (by show 3 ≤ 100000; decide), fun p3 n3 => ?_⟩
        have s3 := same_new (o := HO.tup ([V.str "here", V.str "up", V.str "down"])) n3
        have t3 := upd_same (H := H) (a := p3) (o := HO.tup ([V.str "here", V.str "up", V.str "down"]))
        generalize upd H p3 (HO.tup ([V.str "here", V.str "up", V.str "down"])) = H1 at s3 t3 ⊢
        walk_at "rd"
        refine ⟨p3, _, rfl, .inr (SqT.of t3), rfl, rfl, ?_⟩
        rw [if_neg (by decide)]
        refine ⟨_, rfl, ?_⟩
        rw [show inV (V.str "choice") [V.str "here", V.str "up", V.str "down"] = false from by decide +kernel]
        refine iteF ?_
        walk_at "rd"
        have hs := hs.ext s3
        refine Rd.ixT hs rfl ?_
        walk_at "rd"
        refine ifD rfl ?_
        walk_at "rd"
        refine Rd.ixT hs rfl ?_
        walk_at "rd"
        refine ⟨g1, _, rfl, t1.kp (kp_same s3), o1, by omega, fit1, fun w1 X1 m1 z1 => ?_⟩
        walk_at "rd"
        have hs := hs.ext z1.same
        refine Rd.ixT hs rfl ?_
        walk_at "rd"
        refine Rd.ixT hs rfl ?_
        walk_at "rd"
        refine ⟨g2, _, rfl, t2.kp (kp_same (s3.trans z1.same)), o2, by omega, fit2, fun w2 X2 m2 z2 => ?_⟩
        walk_at "rd"
        have hs := hs.ext z2.same
        refine Rd.ixT hs rfl ?_
        walk_at "rd"
        refine ⟨g3, _, rfl, t3'.kp (kp_same (s3.trans (z1.same.trans z2.same))), o3, by omega, fit3, fun w3 X3 m3 z3 => ?_⟩
        walk_at "rd"
        have sA := s3.trans (z1.same.trans (z2.same.trans z3.same))
        exact mkCho (z1.at_.kp (kp_same (z2.same.trans z3.same))) (z2.at_.kp (kp_same z3.same)) z3.at_ (.inr (ts.ext sA)) asc fit.1 fit.2 fun v H' z => q v H' _ ⟨sA.trans z.same, z.at_, z.new.imp fun y e => ⟨e.1, sA.free e.2⟩, z.sq⟩
end
end K12

namespace K12
open PySem PySem.Spec PyProof.Rows L2
/-- what a comprehension with a test asks -/
def LcF (J : It) (i : Nat) (ii : List Nat) (tt : TT) (te : TE) (σ : L2.St) (H1 : Hp) (Q : VK) : Prop :=
  ∀ D, H1 D = none → ∃ W : Nat → Nat → Hp → Prop, (∃ m, W 0 m (upd H1 D (.lst []))) ∧ ∀ k m H, W k m H →
      (J.stop k H ∧ Q (.ref D) H) ∨ (J.go k H ∧ ∃ Nx : Hp → Prop, (∀ H', Nx H' → ∃ m', m' < m ∧ W (k + 1) m' H') ∧ ∀ x H', J.yld k H x H' → gName i x (wipe σ ii) H' fun σ2 H2 => wipe σ2 ii = wipe σ ii ∧ tt σ2 H2 fun b H3 =>
        if b = true then te σ2 H3 (fun y H4 => ∃ acc, H4 D = some (.lst acc) ∧ acc.length < sizeLine ∧ Nx (upd H4 D (.lst (acc ++ [y])))) else Nx H3)
theorem lcF1 {ta : TA} {tt : TT} {te : TE} {i : Nat} {ii : List Nat} {σ : L2.St} {H : Hp} {Q : VK} (h : ta σ H fun vs H1 => ∃ j, vs = [.int j] ∧ -2 ^ 62 ≤ j ∧ j < 2 ^ 62 ∧ LcF (Itr 0 j.toNat) i ii tt te σ H1 Q) : tLc (iRng1 ta) (gName i) tt te ii σ H Q := h
theorem lcGenF {lo : Int} {n i : Nat} {ii : List Nat} {tt : TT} {te : TE} {σ : L2.St} {H1 : Hp} {Q : VK} (J Jm : Nat → List V → Hp → Prop) (hi : ii = [i]) (hl : n ≤ 100000) (j0 : J 0 [] H1)
    (st : ∀ k acc (H : Hp) D o, H1 D = none → J k acc H → J k acc (upd H D o))
    (ht : ∀ k acc (H2 : Hp) (QB : Bool → Hp → Prop), k < n → J k acc H2 → (∀ b (H3 : Hp), (∀ b o, H1 b = none → H2 b = some o → H3 b = some o) → (b = false → J (k + 1) acc H3) → (b = true → Jm k acc H3) → QB b H3) → tt ((wipe σ [i]).set i (some (.int (lo + (k : Int))))) H2 QB)
    (he : ∀ k acc (H2 : Hp) (Q' : VK), k < n → Jm k acc H2 → (∀ v (H3 : Hp), (∀ b o, H1 b = none → H2 b = some o → H3 b = some o) → J (k + 1) (acc ++ [v]) H3 → Q' v H3) → te ((wipe σ [i]).set i (some (.int (lo + (k : Int))))) H2 Q')
    (q : ∀ D acc (H2 : Hp), H1 D = none → J n acc H2 → H2 D = some (.lst acc) → Q (.ref D) H2) : LcF (Itr lo n) i ii tt te σ H1 Q := by
  subst hi
  intro D hD
  refine lc_it walk_range (fun k H2 => ∃ acc : List V, acc.length ≤ k ∧ J k acc H2 ∧ H2 D = some (.lst acc)) ⟨[], Nat.le_refl _, st 0 [] H1 D _ hD j0, upd_same⟩ (fun _ _ _ _ => trivial) (fun k x H H' hk p hy => ?_) fun H2 p => ?_
  · obtain ⟨rfl, rfl⟩ := hy
    obtain ⟨acc, al, j, c⟩ := p
    refine ⟨by show List.set (List.set (List.set σ i none) i _) i none = List.set σ i none; rw [List.set_set, List.set_set], ?_⟩
    refine ht k acc H' _ hk j fun b H3 kp f t => ?_
    cases b with
    | false => exact iteF ⟨acc, Nat.le_succ_of_le al, f rfl, kp D _ hD c⟩
    | true =>
      refine iteT ?_
      refine he k acc H3 _ hk (t rfl) fun v H4 kp2 j4 => ⟨acc, kp2 D _ hD (kp D _ hD c), ?_, acc ++ [v], by rw [List.length_append]; simp; omega, st _ _ _ D _ hD j4, upd_same⟩
      exact Nat.lt_of_le_of_lt al (Nat.lt_of_lt_of_le (show k < 100001 by omega) (by decide))
  · obtain ⟨acc, al, j, c⟩ := p
    exact q D acc H2 hD j c
local macro_rules | `(tactic| walk_at "rd1") => `(tactic| first
  | (with_reducible refine Rd.seq ?_) | (with_reducible refine Rd.asg ?_) | (with_reducible refine Rd.ret ?_) | (with_reducible refine Rd.nxt ?_) | (with_reducible refine Rd.ifS ?_)
  | (with_reducible refine Rd.op ?_) | (with_reducible refine Rd.un ?_) | (with_reducible refine Rd.cb ?_) | (with_reducible refine Rd.cons ?_) | (with_reducible refine Rd.nil ?_) | (with_reducible refine Rd.ifx ?_)
  | (with_reducible refine Rd.test ?_) | (with_reducible refine Rd.testB ?_) | (with_reducible refine Rd.notT ?_) | (with_reducible refine Rd.isB ?_) | (with_reducible refine Rd.lst ?_) | (with_reducible refine Rd.tup ?_)
  | (with_reducible refine Rd.andV ?_) | (with_reducible refine Rd.orV ?_) | (with_reducible refine Rd.notV ?_) | (with_reducible refine Rd.andT ?_) | (with_reducible refine Rd.orT ?_) | (with_reducible refine Rd.chain ?_)
  | (with_reducible refine Rd.m0 ?_) | (with_reducible refine Rd.m1 ?_) | (with_reducible refine Rd.bm0 ?_) | (with_reducible refine Rd.bm ?_) | (with_reducible refine Rd.sl ?_) | (with_reducible refine Rd.part ?_) | (with_reducible refine Rd.part0 ?_) | (with_reducible refine Rd.isI ?_)
  | (with_reducible refine Rd.fmt ?_) | (with_reducible refine Rd.fmtRD ?_) | (with_reducible refine Rd.meth ?_) | (with_reducible refine makeG ?_) | (with_reducible refine Rd.prop ?_) | (with_reducible refine Rd.js ?_) | (with_reducible refine Rd.js0 ?_) | (with_reducible refine Rd.par ?_) | (with_reducible refine Rd.star ?_) | (with_reducible refine lcR1 ?_) | (with_reducible refine lcR2 ?_) | (with_reducible refine Rd.fld ?_) | (with_reducible refine Rd.sfld ?_) | (with_reducible refine Rd.expr ?_) | (with_reducible refine L2.isNR ?_) | (with_reducible refine L2.methI ?_) | (with_reducible refine Rd.forZ ?_)
  | (with_reducible refine Rd.forEA ?_) | (with_reducible refine Rd.forR1 ?_) | (with_reducible refine Rd.forR2 ?_) | (with_reducible refine Rd.forL ?_) | (with_reducible refine Rd.forT ?_)
  | (with_reducible refine Rd.call ?_) | (with_reducible refine Rd.asgG ?_) | (with_reducible refine Rd.gNm ?_) | (with_reducible refine Rd.gSb ?_) | (with_reducible refine Rd.gC ?_) | (with_reducible refine Rd.gN ?_)
  | ((with_reducible refine' Rd.var ?hv ?_); (case hv => exact rfl)) | (with_reducible refine Rd.c ?_) | (with_reducible refine Rd.i0 ?_) | (with_reducible refine Rd.neg ?_)
  | ((with_reducible refine' Rd.iC ?hc ?_); (case hc => first | (show (0 : Int) < _; decide) | exact ⟨by decide, by decide⟩ | exact ⟨by decide, by decide, by decide⟩ | exact .inl ⟨by decide, by decide⟩ | exact .inr ⟨by decide, by decide⟩ | exact .inl ⟨by omega, by omega⟩ | (show (0 : Int) < _; omega) | exact ⟨by omega, by omega⟩))
  | ((with_reducible refine' Rd.eqS ?hc ?_); (case hc => rfl)) | ((with_reducible refine' Rd.neS ?hc ?_); (case hc => rfl)))
local macro_rules | `(tactic| walk_at "rd") => `(tactic| repeat walk_at "rd1")
theorem pot_same {p : Addr} {H H' : Hp} (h : PotAt H p) (s : Same H H') : PotAt H' p := by
  obtain ⟨x, y, h, z⟩ := h
  exact ⟨x, y, s _ _ h, z⟩
theorem butS' {p : Addr} {H H' : Hp} (s : Same H H') : But p H H' := fun b o _ e => s b o e
/-! ### drawn leaves -/
structure Spots (H : Hp) (p : Addr) (a : Addr) (x : List Str) : Prop where
  at_ : H a = some (.lst (x.map V.str))
  ne : a ≠ p
  nam : ∀ y ∈ x, Nam y ∧ True
  few : x.length < 1000
theorem Spots.but {H H' : Hp} {p a : Addr} {x : List Str} (h : Spots H p a x) (b : But p H H') : Spots H' p a x := ⟨b _ _ h.ne h.at_, h.ne, h.nam, h.few⟩
structure Spot3 (K : PySem.W.Frag) (H : Hp) (p s a0 a1 a2 : Addr) (x0 x1 x2 : List Str) : Prop where
  at_ : SqT K H s [.ref a0, .ref a1, .ref a2]
  s0 : Spots H p a0 x0
  s1 : Spots H p a1 x1
  s2 : Spots H p a2 x2
theorem Spot3.but {K : PySem.W.Frag} {H H' : Hp} {p s a0 a1 a2 : Addr} {x0 x1 x2 : List Str} (h : Spot3 K H p s a0 a1 a2 x0 x1 x2) (pt : PotAt H p) (b : But p H H') : Spot3 K H' p s a0 a1 a2 x0 x1 x2 :=
  ⟨sqt_kp (kp_pot pt b) h.at_, h.s0.but b, h.s1.but b, h.s2.but b⟩
/-- the names may be one letter longer -/
def Nz : Fm → Prop
  | .num _ => True
  | .ref _ x => True
  | .pair _ l r => Nz l ∧ Nz r
  | .cho t _ a b => Nz t ∧ Nz a ∧ Nz b
/-- a drawn tuple -/
structure Drn (K : PySem.W.Frag) (H H' : Hp) (p : Addr) (f : Fm) (v : V) : Prop where
  pot : PotAt H' p
  but : But p H H'
  at_ : TpAt K H' f v
  ok : Okf f
  nz : Nz f
def spLeaf (K : PySem.W.Frag) : Sp := fun vs H Q _ => ∃ (p s a0 a1 a2 : Addr) (m : Nat) (x0 x1 x2 : List Str), vs = [.ref p, .int (m : Nat), .ref s] ∧ PotAt H p ∧ 0 < m ∧ m ≤ 9 ∧ Spot3 K H p s a0 a1 a2 x0 x1 x2 ∧ ∀ f v H', Drn K H H' p f v → f.q.1 ≤ 1 → Q v H'
abbrev sLeaf : Stmt := topA i_law_leaf
section
variable {P : Program} {w : World} {K : PySem.W.Frag} {mg : Str → Option Value} {base : Heap} {f fD fP : Addr} {fd fdD fdP : FuncData}
theorem scLeaf : FnScope ["_law_pot_here", "_law_modulus", "_law_spots", "_law_way"] ["_law_pot_here", "_law_modulus", "_law_spots"] (defScope sLeaf) := ⟨rfl, rfl, rfl, by decide +kernel, rfl, by decide +kernel, by decide +kernel⟩
theorem ok_leaf (F : FnP K "_law_leaf" sLeaf f fd) (FD : FnP K "_law_draw" sDraw fD fdD) (GD : FnOk P w K mg base CX0 1 fD fdD ["_law_pot_here", "_law_many"] spDraw) (gD : mg "_law_draw" = some (.ref fD)) (FP : FnP K "_law_pick" sPick fP fdP) (GP : FnOk P w K mg base CX0 2 fP fdP ["_law_pot_here", "_law_some"] (spPick K)) (gP : mg "_law_pick" = some (.ref fP)) :
    FnOk P w K mg base CX0 3 f fd ["_law_pot_here", "_law_modulus", "_law_spots"] (spLeaf K) := by
  have bD : Binds K fdD ["_law_pot_here", "_law_many"] [] := FD.bindsN fun _ _ _ _ _ _ us hl => match us, hl with | [_, _], _ => rfl
  have bP : Binds K fdP ["_law_pot_here", "_law_some"] [] := FP.bindsN fun _ _ _ _ _ _ us hl => match us, hl with | [_, _], _ => rfl
  refine F.ok scLeaf (fun vs H Q E h => ?_) (fun cdv A outer s H vs Q E hr h => ?_)
  · obtain ⟨p, s, a0, a1, a2, m, x0, x1, x2, rfl, _⟩ := h
    rfl
  · obtain ⟨p, s, a0, a1, a2, m, x0, x1, x2, rfl, pt, m0, m9, sp, q⟩ := h
    have r1 := hr.mono (show 1 ≤ 2 by decide)
    refine ⟨_, PSs.nox (pss_cons (ps_set (i := 3) scLeaf.nd rfl (Or.inl rfl) (pe_call GD r1 rfl gD FD.kp bD .nil pass0 (pa_cons (pv 0) (pa_cons pe_int pa_nil))))
      (pss_cons (ps_if (PW.pt (pw_and (pt_cmpR op_in_seq (pv 3) (pe_tup (pa_cons pe_int (pa_cons pe_int pa_nil))) rfl) (pw_and1 (pt_cmpR (op_neD hr.units) (pe_ix ix_tup (pv 2) pe_int (fun _ _ => rfl)) (pe_lst pa_nil) (nomark _)))))
        (pss_one (ps_ret (pe_tup (pa_cons pe_str (pa_cons (pe_call GP hr rfl gP FP.kp bP .nil pass0 (pa_cons (pv 0) (pa_cons (pe_ix ix_tup (pv 2) pe_int (fun _ _ => rfl)) pa_nil))) pa_nil))))) pss_nil)
      (pss_cons (ps_if (PW.pt (pw_and (pt_cmpR op_in_seq (pv 3) (pe_tup (pa_cons pe_int (pa_cons pe_int pa_nil))) rfl) (pw_and1 (pt_cmpR (op_neD hr.units) (pe_ix ix_tup (pv 2) pe_int (fun _ _ => rfl)) (pe_lst pa_nil) (nomark _)))))
        (pss_one (ps_ret (pe_tup (pa_cons pe_str (pa_cons (pe_call GP hr rfl gP FP.kp bP .nil pass0 (pa_cons (pv 0) (pa_cons (pe_ix ix_tup (pv 2) pe_int (fun _ _ => rfl)) pa_nil))) pa_nil))))) pss_nil)
      (pss_cons (ps_if (PW.pt (pw_and (pt_cmpR op_in_seq (pv 3) (pe_tup (pa_cons pe_int (pa_cons pe_int pa_nil))) rfl) (pw_and1 (pt_cmpR (op_neD hr.units) (pe_ix ix_tup (pv 2) pe_int (fun _ _ => rfl)) (pe_lst pa_nil) (nomark _)))))
        (pss_one (ps_ret (pe_tup (pa_cons pe_str (pa_cons (pe_call GP hr rfl gP FP.kp bP .nil pass0 (pa_cons (pv 0) (pa_cons (pe_ix ix_tup (pv 2) pe_int (fun _ _ => rfl)) pa_nil))) pa_nil))))) pss_nil)
      (pss_one (ps_ret (pe_tup (pa_cons pe_str (pa_cons (pe_call GD r1 rfl gD FD.kp bD .nil pass0 (pa_cons (pv 0) (pa_cons (pv 1) pa_nil))) pa_nil))))))))), ?_⟩
    walk_at "rd"
    refine ⟨p, _, rfl, pt, by decide, by decide, fun d H1 d0 dl p1 b1 => ?_⟩
    have sp1 := sp.but pt b1
    walk_at "rd"
    refine ⟨Rd.small (by show 2 ≤ 100000; decide), fun ta0 na0 => ?_⟩
    have sa0 := same_new (o := HO.tup ([V.int 1, V.int 2])) na0
    have ua0 := upd_same (H := H1) (a := ta0) (o := HO.tup ([V.int 1, V.int 2]))
    generalize upd H1 ta0 (HO.tup ([V.int 1, V.int 2])) = Ha0 at sa0 ua0 ⊢
    walk_at "rd"
    refine ⟨_, _, rfl, .inr (SqT.of ua0), rfl, rfl, ?_⟩
    rw [if_neg (by decide)]
    refine ⟨_, rfl, ?_⟩
    have pa0 := pot_same p1 sa0
    have ba0 := b1.trans (butS' (p := p) sa0)
    have xa0 := sp1.but p1 (butS' sa0)
    refine Rd.ifB (fun z => ?_) (fun z => ?_)
    · walk_at "rd"
      refine Rd.ixT xa0.at_ rfl ?_
      walk_at "rd"
      refine ⟨Rd.small (by show 0 ≤ 100000; decide), fun tb0 nb0 => ?_⟩
      have sb0 := same_new (o := HO.lst ([])) nb0
      have ub0 := upd_same (H := Ha0) (a := tb0) (o := HO.lst ([]))
      generalize upd Ha0 tb0 (HO.lst ([])) = Hb0 at sb0 ub0 ⊢
      walk_at "rd"
      have pb0 := pot_same pa0 sb0
      have bb0 := ba0.trans (butS' (p := p) sb0)
      have xb0 := xa0.but pa0 (butS' sb0)
      refine ⟨_, _, .lst (SqL.of xb0.s0.at_) (dpa_strs _), .lst (SqL.of ub0) (dpa_strs []), shaped_lst (fun y hy => (xb0.s0.nam y hy).1.sok), shaped_lst (fun _ h => absurd h List.not_mem_nil), ?_⟩
      rw [eqv_lists]
      walk_at "rd"
      by_cases ne : x0 = []
      · rw [decide_eq_true ne]
        refine iteF ?_
        walk_at "rd"
        refine ⟨Rd.small (by show 2 ≤ 100000; decide), fun ta1 na1 => ?_⟩
        have sa1 := same_new (o := HO.tup ([V.int 3, V.int 4])) na1
        have ua1 := upd_same (H := Hb0) (a := ta1) (o := HO.tup ([V.int 3, V.int 4]))
        generalize upd Hb0 ta1 (HO.tup ([V.int 3, V.int 4])) = Ha1 at sa1 ua1 ⊢
        walk_at "rd"
        refine ⟨_, _, rfl, .inr (SqT.of ua1), rfl, rfl, ?_⟩
        rw [if_neg (by decide)]
        refine ⟨_, rfl, ?_⟩
        have pa1 := pot_same pb0 sa1
        have ba1 := bb0.trans (butS' (p := p) sa1)
        have xa1 := xb0.but pb0 (butS' sa1)
        refine Rd.ifB (fun z => ?_) (fun z => ?_)
        · walk_at "rd"
          refine Rd.ixT xa1.at_ rfl ?_
          walk_at "rd"
          refine ⟨Rd.small (by show 0 ≤ 100000; decide), fun tb1 nb1 => ?_⟩
          have sb1 := same_new (o := HO.lst ([])) nb1
          have ub1 := upd_same (H := Ha1) (a := tb1) (o := HO.lst ([]))
          generalize upd Ha1 tb1 (HO.lst ([])) = Hb1 at sb1 ub1 ⊢
          walk_at "rd"
          have pb1 := pot_same pa1 sb1
          have bb1 := ba1.trans (butS' (p := p) sb1)
          have xb1 := xa1.but pa1 (butS' sb1)
          refine ⟨_, _, .lst (SqL.of xb1.s1.at_) (dpa_strs _), .lst (SqL.of ub1) (dpa_strs []), shaped_lst (fun y hy => (xb1.s1.nam y hy).1.sok), shaped_lst (fun _ h => absurd h List.not_mem_nil), ?_⟩
          rw [eqv_lists]
          walk_at "rd"
          by_cases ne : x1 = []
          · rw [decide_eq_true ne]
            refine iteF ?_
            walk_at "rd"
            refine ⟨Rd.small (by show 2 ≤ 100000; decide), fun ta2 na2 => ?_⟩
            have sa2 := same_new (o := HO.tup ([V.int 5, V.int 6])) na2
            have ua2 := upd_same (H := Hb1) (a := ta2) (o := HO.tup ([V.int 5, V.int 6]))
            generalize upd Hb1 ta2 (HO.tup ([V.int 5, V.int 6])) = Ha2 at sa2 ua2 ⊢
            walk_at "rd"
            refine ⟨_, _, rfl, .inr (SqT.of ua2), rfl, rfl, ?_⟩
            rw [if_neg (by decide)]
            refine ⟨_, rfl, ?_⟩
            have pa2 := pot_same pb1 sa2
            have ba2 := bb1.trans (butS' (p := p) sa2)
            have xa2 := xb1.but pb1 (butS' sa2)
            refine Rd.ifB (fun z => ?_) (fun z => ?_)
            · walk_at "rd"
              refine Rd.ixT xa2.at_ rfl ?_
              walk_at "rd"
              refine ⟨Rd.small (by show 0 ≤ 100000; decide), fun tb2 nb2 => ?_⟩
              have sb2 := same_new (o := HO.lst ([])) nb2
              have ub2 := upd_same (H := Ha2) (a := tb2) (o := HO.lst ([]))
              generalize upd Ha2 tb2 (HO.lst ([])) = Hb2 at sb2 ub2 ⊢
              walk_at "rd"
              have pb2 := pot_same pa2 sb2
              have bb2 := ba2.trans (butS' (p := p) sb2)
              have xb2 := xa2.but pa2 (butS' sb2)
              refine ⟨_, _, .lst (SqL.of xb2.s2.at_) (dpa_strs _), .lst (SqL.of ub2) (dpa_strs []), shaped_lst (fun y hy => (xb2.s2.nam y hy).1.sok), shaped_lst (fun _ h => absurd h List.not_mem_nil), ?_⟩
              rw [eqv_lists]
              walk_at "rd"
              by_cases ne : x2 = []
              · rw [decide_eq_true ne]
                refine iteF ?_
                walk_at "rd"
                -- the number
                refine ⟨p, _, rfl, pb2, by omega, Int.lt_trans (show (m : Int) < 10 by omega) (by decide +kernel), fun d H2 d0 dl p2 b2 => ?_⟩
                obtain ⟨k, rfl⟩ := Int.eq_ofNat_of_zero_le d0
                walk_at "rd"
                refine ⟨Rd.small (by show 2 ≤ 100000; decide), fun r nr => ?_⟩
                have s9 := same_new (o := HO.tup [V.str "number", V.int (k : Nat)]) nr
                exact q (.num k) (.ref r) _ ⟨pot_same p2 s9, (bb2.trans b2).trans (butS' s9), ⟨r, rfl, SqT.of upd_same⟩, (by show k ≤ 8; omega), trivial⟩ (Nat.le_refl 1)
              · rw [decide_eq_false ne]
                refine iteT ?_
                walk_at "rd"
                refine Rd.ixT xb2.at_ rfl ?_
                walk_at "rd"
                refine ⟨p, a2, x2.map V.str, rfl, pb2, xb2.s2.at_, xb2.s2.ne, (by simpa using ne), (by rw [List.length_map]; exact Nat.lt_trans xb2.s2.few (by decide)), fun v H2 mv p2 b2 => ?_⟩
                obtain ⟨y, my, rfl⟩ := List.mem_map.mp mv
                walk_at "rd"
                refine ⟨Rd.small (by show 2 ≤ 100000; decide), fun r nr => ?_⟩
                have s9 := same_new (o := HO.tup [V.str "down", V.str y]) nr
                exact q (.ref 2 y) (.ref r) _ ⟨pot_same p2 s9, (bb2.trans b2).trans (butS' s9), ⟨r, rfl, SqT.of upd_same⟩, ⟨by decide, (xb2.s2.nam y my).1⟩, (xb2.s2.nam y my).2⟩ (Nat.le_refl 1)
            · refine iteF ?_
              walk_at "rd"
              -- the number
              refine ⟨p, _, rfl, pa2, by omega, Int.lt_trans (show (m : Int) < 10 by omega) (by decide +kernel), fun d H2 d0 dl p2 b2 => ?_⟩
              obtain ⟨k, rfl⟩ := Int.eq_ofNat_of_zero_le d0
              walk_at "rd"
              refine ⟨Rd.small (by show 2 ≤ 100000; decide), fun r nr => ?_⟩
              have s9 := same_new (o := HO.tup [V.str "number", V.int (k : Nat)]) nr
              exact q (.num k) (.ref r) _ ⟨pot_same p2 s9, (ba2.trans b2).trans (butS' s9), ⟨r, rfl, SqT.of upd_same⟩, (by show k ≤ 8; omega), trivial⟩ (Nat.le_refl 1)
          · rw [decide_eq_false ne]
            refine iteT ?_
            walk_at "rd"
            refine Rd.ixT xb1.at_ rfl ?_
            walk_at "rd"
            refine ⟨p, a1, x1.map V.str, rfl, pb1, xb1.s1.at_, xb1.s1.ne, (by simpa using ne), (by rw [List.length_map]; exact Nat.lt_trans xb1.s1.few (by decide)), fun v H2 mv p2 b2 => ?_⟩
            obtain ⟨y, my, rfl⟩ := List.mem_map.mp mv
            walk_at "rd"
            refine ⟨Rd.small (by show 2 ≤ 100000; decide), fun r nr => ?_⟩
            have s9 := same_new (o := HO.tup [V.str "up", V.str y]) nr
            exact q (.ref 1 y) (.ref r) _ ⟨pot_same p2 s9, (bb1.trans b2).trans (butS' s9), ⟨r, rfl, SqT.of upd_same⟩, ⟨by decide, (xb1.s1.nam y my).1⟩, (xb1.s1.nam y my).2⟩ (Nat.le_refl 1)
        · refine iteF ?_
          walk_at "rd"
          refine ⟨Rd.small (by show 2 ≤ 100000; decide), fun ta2 na2 => ?_⟩
          have sa2 := same_new (o := HO.tup ([V.int 5, V.int 6])) na2
          have ua2 := upd_same (H := Ha1) (a := ta2) (o := HO.tup ([V.int 5, V.int 6]))
          generalize upd Ha1 ta2 (HO.tup ([V.int 5, V.int 6])) = Ha2 at sa2 ua2 ⊢
          walk_at "rd"
          refine ⟨_, _, rfl, .inr (SqT.of ua2), rfl, rfl, ?_⟩
          rw [if_neg (by decide)]
          refine ⟨_, rfl, ?_⟩
          have pa2 := pot_same pa1 sa2
          have ba2 := ba1.trans (butS' (p := p) sa2)
          have xa2 := xa1.but pa1 (butS' sa2)
          refine Rd.ifB (fun z => ?_) (fun z => ?_)
          · walk_at "rd"
            refine Rd.ixT xa2.at_ rfl ?_
            walk_at "rd"
            refine ⟨Rd.small (by show 0 ≤ 100000; decide), fun tb2 nb2 => ?_⟩
            have sb2 := same_new (o := HO.lst ([])) nb2
            have ub2 := upd_same (H := Ha2) (a := tb2) (o := HO.lst ([]))
            generalize upd Ha2 tb2 (HO.lst ([])) = Hb2 at sb2 ub2 ⊢
            walk_at "rd"
            have pb2 := pot_same pa2 sb2
            have bb2 := ba2.trans (butS' (p := p) sb2)
            have xb2 := xa2.but pa2 (butS' sb2)
            refine ⟨_, _, .lst (SqL.of xb2.s2.at_) (dpa_strs _), .lst (SqL.of ub2) (dpa_strs []), shaped_lst (fun y hy => (xb2.s2.nam y hy).1.sok), shaped_lst (fun _ h => absurd h List.not_mem_nil), ?_⟩
            rw [eqv_lists]
            walk_at "rd"
            by_cases ne : x2 = []
            · rw [decide_eq_true ne]
              refine iteF ?_
              walk_at "rd"
              -- the number
              refine ⟨p, _, rfl, pb2, by omega, Int.lt_trans (show (m : Int) < 10 by omega) (by decide +kernel), fun d H2 d0 dl p2 b2 => ?_⟩
              obtain ⟨k, rfl⟩ := Int.eq_ofNat_of_zero_le d0
              walk_at "rd"
              refine ⟨Rd.small (by show 2 ≤ 100000; decide), fun r nr => ?_⟩
              have s9 := same_new (o := HO.tup [V.str "number", V.int (k : Nat)]) nr
              exact q (.num k) (.ref r) _ ⟨pot_same p2 s9, (bb2.trans b2).trans (butS' s9), ⟨r, rfl, SqT.of upd_same⟩, (by show k ≤ 8; omega), trivial⟩ (Nat.le_refl 1)
            · rw [decide_eq_false ne]
              refine iteT ?_
              walk_at "rd"
              refine Rd.ixT xb2.at_ rfl ?_
              walk_at "rd"
              refine ⟨p, a2, x2.map V.str, rfl, pb2, xb2.s2.at_, xb2.s2.ne, (by simpa using ne), (by rw [List.length_map]; exact Nat.lt_trans xb2.s2.few (by decide)), fun v H2 mv p2 b2 => ?_⟩
              obtain ⟨y, my, rfl⟩ := List.mem_map.mp mv
              walk_at "rd"
              refine ⟨Rd.small (by show 2 ≤ 100000; decide), fun r nr => ?_⟩
              have s9 := same_new (o := HO.tup [V.str "down", V.str y]) nr
              exact q (.ref 2 y) (.ref r) _ ⟨pot_same p2 s9, (bb2.trans b2).trans (butS' s9), ⟨r, rfl, SqT.of upd_same⟩, ⟨by decide, (xb2.s2.nam y my).1⟩, (xb2.s2.nam y my).2⟩ (Nat.le_refl 1)
          · refine iteF ?_
            walk_at "rd"
            -- the number
            refine ⟨p, _, rfl, pa2, by omega, Int.lt_trans (show (m : Int) < 10 by omega) (by decide +kernel), fun d H2 d0 dl p2 b2 => ?_⟩
            obtain ⟨k, rfl⟩ := Int.eq_ofNat_of_zero_le d0
            walk_at "rd"
            refine ⟨Rd.small (by show 2 ≤ 100000; decide), fun r nr => ?_⟩
            have s9 := same_new (o := HO.tup [V.str "number", V.int (k : Nat)]) nr
            exact q (.num k) (.ref r) _ ⟨pot_same p2 s9, (ba2.trans b2).trans (butS' s9), ⟨r, rfl, SqT.of upd_same⟩, (by show k ≤ 8; omega), trivial⟩ (Nat.le_refl 1)
      · rw [decide_eq_false ne]
        refine iteT ?_
        walk_at "rd"
        refine Rd.ixT xb0.at_ rfl ?_
        walk_at "rd"
        refine ⟨p, a0, x0.map V.str, rfl, pb0, xb0.s0.at_, xb0.s0.ne, (by simpa using ne), (by rw [List.length_map]; exact Nat.lt_trans xb0.s0.few (by decide)), fun v H2 mv p2 b2 => ?_⟩
        obtain ⟨y, my, rfl⟩ := List.mem_map.mp mv
        walk_at "rd"
        refine ⟨Rd.small (by show 2 ≤ 100000; decide), fun r nr => ?_⟩
        have s9 := same_new (o := HO.tup [V.str "here", V.str y]) nr
        exact q (.ref 0 y) (.ref r) _ ⟨pot_same p2 s9, (bb0.trans b2).trans (butS' s9), ⟨r, rfl, SqT.of upd_same⟩, ⟨by decide, (xb0.s0.nam y my).1⟩, (xb0.s0.nam y my).2⟩ (Nat.le_refl 1)
    · refine iteF ?_
      walk_at "rd"
      refine ⟨Rd.small (by show 2 ≤ 100000; decide), fun ta1 na1 => ?_⟩
      have sa1 := same_new (o := HO.tup ([V.int 3, V.int 4])) na1
      have ua1 := upd_same (H := Ha0) (a := ta1) (o := HO.tup ([V.int 3, V.int 4]))
      generalize upd Ha0 ta1 (HO.tup ([V.int 3, V.int 4])) = Ha1 at sa1 ua1 ⊢
      walk_at "rd"
      refine ⟨_, _, rfl, .inr (SqT.of ua1), rfl, rfl, ?_⟩
      rw [if_neg (by decide)]
      refine ⟨_, rfl, ?_⟩
      have pa1 := pot_same pa0 sa1
      have ba1 := ba0.trans (butS' (p := p) sa1)
      have xa1 := xa0.but pa0 (butS' sa1)
      refine Rd.ifB (fun z => ?_) (fun z => ?_)
      · walk_at "rd"
        refine Rd.ixT xa1.at_ rfl ?_
        walk_at "rd"
        refine ⟨Rd.small (by show 0 ≤ 100000; decide), fun tb1 nb1 => ?_⟩
        have sb1 := same_new (o := HO.lst ([])) nb1
        have ub1 := upd_same (H := Ha1) (a := tb1) (o := HO.lst ([]))
        generalize upd Ha1 tb1 (HO.lst ([])) = Hb1 at sb1 ub1 ⊢
        walk_at "rd"
        have pb1 := pot_same pa1 sb1
        have bb1 := ba1.trans (butS' (p := p) sb1)
        have xb1 := xa1.but pa1 (butS' sb1)
        refine ⟨_, _, .lst (SqL.of xb1.s1.at_) (dpa_strs _), .lst (SqL.of ub1) (dpa_strs []), shaped_lst (fun y hy => (xb1.s1.nam y hy).1.sok), shaped_lst (fun _ h => absurd h List.not_mem_nil), ?_⟩
        rw [eqv_lists]
        walk_at "rd"
        by_cases ne : x1 = []
        · rw [decide_eq_true ne]
          refine iteF ?_
          walk_at "rd"
          refine ⟨Rd.small (by show 2 ≤ 100000; decide), fun ta2 na2 => ?_⟩
          have sa2 := same_new (o := HO.tup ([V.int 5, V.int 6])) na2
          have ua2 := upd_same (H := Hb1) (a := ta2) (o := HO.tup ([V.int 5, V.int 6]))
          generalize upd Hb1 ta2 (HO.tup ([V.int 5, V.int 6])) = Ha2 at sa2 ua2 ⊢
          walk_at "rd"
          refine ⟨_, _, rfl, .inr (SqT.of ua2), rfl, rfl, ?_⟩
          rw [if_neg (by decide)]
          refine ⟨_, rfl, ?_⟩
          have pa2 := pot_same pb1 sa2
          have ba2 := bb1.trans (butS' (p := p) sa2)
          have xa2 := xb1.but pb1 (butS' sa2)
          refine Rd.ifB (fun z => ?_) (fun z => ?_)
          · walk_at "rd"
            refine Rd.ixT xa2.at_ rfl ?_
            walk_at "rd"
            refine ⟨Rd.small (by show 0 ≤ 100000; decide), fun tb2 nb2 => ?_⟩
            have sb2 := same_new (o := HO.lst ([])) nb2
            have ub2 := upd_same (H := Ha2) (a := tb2) (o := HO.lst ([]))
            generalize upd Ha2 tb2 (HO.lst ([])) = Hb2 at sb2 ub2 ⊢
            walk_at "rd"
            have pb2 := pot_same pa2 sb2
            have bb2 := ba2.trans (butS' (p := p) sb2)
            have xb2 := xa2.but pa2 (butS' sb2)
            refine ⟨_, _, .lst (SqL.of xb2.s2.at_) (dpa_strs _), .lst (SqL.of ub2) (dpa_strs []), shaped_lst (fun y hy => (xb2.s2.nam y hy).1.sok), shaped_lst (fun _ h => absurd h List.not_mem_nil), ?_⟩
            rw [eqv_lists]
            walk_at "rd"
            by_cases ne : x2 = []
            · rw [decide_eq_true ne]
              refine iteF ?_
              walk_at "rd"
              -- the number
              refine ⟨p, _, rfl, pb2, by omega, Int.lt_trans (show (m : Int) < 10 by omega) (by decide +kernel), fun d H2 d0 dl p2 b2 => ?_⟩
              obtain ⟨k, rfl⟩ := Int.eq_ofNat_of_zero_le d0
              walk_at "rd"
              refine ⟨Rd.small (by show 2 ≤ 100000; decide), fun r nr => ?_⟩
              have s9 := same_new (o := HO.tup [V.str "number", V.int (k : Nat)]) nr
              exact q (.num k) (.ref r) _ ⟨pot_same p2 s9, (bb2.trans b2).trans (butS' s9), ⟨r, rfl, SqT.of upd_same⟩, (by show k ≤ 8; omega), trivial⟩ (Nat.le_refl 1)
            · rw [decide_eq_false ne]
              refine iteT ?_
              walk_at "rd"
              refine Rd.ixT xb2.at_ rfl ?_
              walk_at "rd"
              refine ⟨p, a2, x2.map V.str, rfl, pb2, xb2.s2.at_, xb2.s2.ne, (by simpa using ne), (by rw [List.length_map]; exact Nat.lt_trans xb2.s2.few (by decide)), fun v H2 mv p2 b2 => ?_⟩
              obtain ⟨y, my, rfl⟩ := List.mem_map.mp mv
              walk_at "rd"
              refine ⟨Rd.small (by show 2 ≤ 100000; decide), fun r nr => ?_⟩
              have s9 := same_new (o := HO.tup [V.str "down", V.str y]) nr
              exact q (.ref 2 y) (.ref r) _ ⟨pot_same p2 s9, (bb2.trans b2).trans (butS' s9), ⟨r, rfl, SqT.of upd_same⟩, ⟨by decide, (xb2.s2.nam y my).1⟩, (xb2.s2.nam y my).2⟩ (Nat.le_refl 1)
          · refine iteF ?_
            walk_at "rd"
            -- the number
            refine ⟨p, _, rfl, pa2, by omega, Int.lt_trans (show (m : Int) < 10 by omega) (by decide +kernel), fun d H2 d0 dl p2 b2 => ?_⟩
            obtain ⟨k, rfl⟩ := Int.eq_ofNat_of_zero_le d0
            walk_at "rd"
            refine ⟨Rd.small (by show 2 ≤ 100000; decide), fun r nr => ?_⟩
            have s9 := same_new (o := HO.tup [V.str "number", V.int (k : Nat)]) nr
            exact q (.num k) (.ref r) _ ⟨pot_same p2 s9, (ba2.trans b2).trans (butS' s9), ⟨r, rfl, SqT.of upd_same⟩, (by show k ≤ 8; omega), trivial⟩ (Nat.le_refl 1)
        · rw [decide_eq_false ne]
          refine iteT ?_
          walk_at "rd"
          refine Rd.ixT xb1.at_ rfl ?_
          walk_at "rd"
          refine ⟨p, a1, x1.map V.str, rfl, pb1, xb1.s1.at_, xb1.s1.ne, (by simpa using ne), (by rw [List.length_map]; exact Nat.lt_trans xb1.s1.few (by decide)), fun v H2 mv p2 b2 => ?_⟩
          obtain ⟨y, my, rfl⟩ := List.mem_map.mp mv
          walk_at "rd"
          refine ⟨Rd.small (by show 2 ≤ 100000; decide), fun r nr => ?_⟩
          have s9 := same_new (o := HO.tup [V.str "up", V.str y]) nr
          exact q (.ref 1 y) (.ref r) _ ⟨pot_same p2 s9, (bb1.trans b2).trans (butS' s9), ⟨r, rfl, SqT.of upd_same⟩, ⟨by decide, (xb1.s1.nam y my).1⟩, (xb1.s1.nam y my).2⟩ (Nat.le_refl 1)
      · refine iteF ?_
        walk_at "rd"
        refine ⟨Rd.small (by show 2 ≤ 100000; decide), fun ta2 na2 => ?_⟩
        have sa2 := same_new (o := HO.tup ([V.int 5, V.int 6])) na2
        have ua2 := upd_same (H := Ha1) (a := ta2) (o := HO.tup ([V.int 5, V.int 6]))
        generalize upd Ha1 ta2 (HO.tup ([V.int 5, V.int 6])) = Ha2 at sa2 ua2 ⊢
        walk_at "rd"
        refine ⟨_, _, rfl, .inr (SqT.of ua2), rfl, rfl, ?_⟩
        rw [if_neg (by decide)]
        refine ⟨_, rfl, ?_⟩
        have pa2 := pot_same pa1 sa2
        have ba2 := ba1.trans (butS' (p := p) sa2)
        have xa2 := xa1.but pa1 (butS' sa2)
        refine Rd.ifB (fun z => ?_) (fun z => ?_)
        · walk_at "rd"
          refine Rd.ixT xa2.at_ rfl ?_
          walk_at "rd"
          refine ⟨Rd.small (by show 0 ≤ 100000; decide), fun tb2 nb2 => ?_⟩
          have sb2 := same_new (o := HO.lst ([])) nb2
          have ub2 := upd_same (H := Ha2) (a := tb2) (o := HO.lst ([]))
          generalize upd Ha2 tb2 (HO.lst ([])) = Hb2 at sb2 ub2 ⊢
          walk_at "rd"
          have pb2 := pot_same pa2 sb2
          have bb2 := ba2.trans (butS' (p := p) sb2)
          have xb2 := xa2.but pa2 (butS' sb2)
          refine ⟨_, _, .lst (SqL.of xb2.s2.at_) (dpa_strs _), .lst (SqL.of ub2) (dpa_strs []), shaped_lst (fun y hy => (xb2.s2.nam y hy).1.sok), shaped_lst (fun _ h => absurd h List.not_mem_nil), ?_⟩
          rw [eqv_lists]
          walk_at "rd"
          by_cases ne : x2 = []
          · rw [decide_eq_true ne]
            refine iteF ?_
            walk_at "rd"
            -- the number
            refine ⟨p, _, rfl, pb2, by omega, Int.lt_trans (show (m : Int) < 10 by omega) (by decide +kernel), fun d H2 d0 dl p2 b2 => ?_⟩
            obtain ⟨k, rfl⟩ := Int.eq_ofNat_of_zero_le d0
            walk_at "rd"
            refine ⟨Rd.small (by show 2 ≤ 100000; decide), fun r nr => ?_⟩
            have s9 := same_new (o := HO.tup [V.str "number", V.int (k : Nat)]) nr
            exact q (.num k) (.ref r) _ ⟨pot_same p2 s9, (bb2.trans b2).trans (butS' s9), ⟨r, rfl, SqT.of upd_same⟩, (by show k ≤ 8; omega), trivial⟩ (Nat.le_refl 1)
          · rw [decide_eq_false ne]
            refine iteT ?_
            walk_at "rd"
            refine Rd.ixT xb2.at_ rfl ?_
            walk_at "rd"
            refine ⟨p, a2, x2.map V.str, rfl, pb2, xb2.s2.at_, xb2.s2.ne, (by simpa using ne), (by rw [List.length_map]; exact Nat.lt_trans xb2.s2.few (by decide)), fun v H2 mv p2 b2 => ?_⟩
            obtain ⟨y, my, rfl⟩ := List.mem_map.mp mv
            walk_at "rd"
            refine ⟨Rd.small (by show 2 ≤ 100000; decide), fun r nr => ?_⟩
            have s9 := same_new (o := HO.tup [V.str "down", V.str y]) nr
            exact q (.ref 2 y) (.ref r) _ ⟨pot_same p2 s9, (bb2.trans b2).trans (butS' s9), ⟨r, rfl, SqT.of upd_same⟩, ⟨by decide, (xb2.s2.nam y my).1⟩, (xb2.s2.nam y my).2⟩ (Nat.le_refl 1)
        · refine iteF ?_
          walk_at "rd"
          -- the number
          refine ⟨p, _, rfl, pa2, by omega, Int.lt_trans (show (m : Int) < 10 by omega) (by decide +kernel), fun d H2 d0 dl p2 b2 => ?_⟩
          obtain ⟨k, rfl⟩ := Int.eq_ofNat_of_zero_le d0
          walk_at "rd"
          refine ⟨Rd.small (by show 2 ≤ 100000; decide), fun r nr => ?_⟩
          have s9 := same_new (o := HO.tup [V.str "number", V.int (k : Nat)]) nr
          exact q (.num k) (.ref r) _ ⟨pot_same p2 s9, (ba2.trans b2).trans (butS' s9), ⟨r, rfl, SqT.of upd_same⟩, (by show k ≤ 8; omega), trivial⟩ (Nat.le_refl 1)
end
end K12

namespace K12
open PySem PySem.Spec PyProof.Rows L2
local macro_rules | `(tactic| walk_at "rd1") => `(tactic| first
  | (with_reducible refine Rd.seq ?_) | (with_reducible refine Rd.asg ?_) | (with_reducible refine Rd.ret ?_) | (with_reducible refine Rd.nxt ?_) | (with_reducible refine Rd.ifS ?_)
  | (with_reducible refine Rd.op ?_) | (with_reducible refine Rd.un ?_) | (with_reducible refine Rd.cb ?_) | (with_reducible refine Rd.cons ?_) | (with_reducible refine Rd.nil ?_) | (with_reducible refine Rd.ifx ?_)
  | (with_reducible refine Rd.test ?_) | (with_reducible refine Rd.testB ?_) | (with_reducible refine Rd.notT ?_) | (with_reducible refine Rd.isB ?_) | (with_reducible refine Rd.lst ?_) | (with_reducible refine Rd.tup ?_)
  | (with_reducible refine Rd.andV ?_) | (with_reducible refine Rd.orV ?_) | (with_reducible refine Rd.notV ?_) | (with_reducible refine Rd.andT ?_) | (with_reducible refine Rd.orT ?_) | (with_reducible refine Rd.chain ?_)
  | (with_reducible refine Rd.m0 ?_) | (with_reducible refine Rd.m1 ?_) | (with_reducible refine Rd.bm0 ?_) | (with_reducible refine Rd.bm ?_) | (with_reducible refine Rd.sl ?_) | (with_reducible refine Rd.part ?_) | (with_reducible refine Rd.part0 ?_) | (with_reducible refine Rd.isI ?_)
  | (with_reducible refine Rd.fmt ?_) | (with_reducible refine Rd.fmtRD ?_) | (with_reducible refine Rd.meth ?_) | (with_reducible refine makeG ?_) | (with_reducible refine Rd.prop ?_) | (with_reducible refine Rd.js ?_) | (with_reducible refine Rd.js0 ?_) | (with_reducible refine Rd.par ?_) | (with_reducible refine Rd.star ?_) | (with_reducible refine lcR1 ?_) | (with_reducible refine lcR2 ?_) | (with_reducible refine Rd.fld ?_) | (with_reducible refine Rd.sfld ?_) | (with_reducible refine Rd.expr ?_) | (with_reducible refine L2.isNR ?_) | (with_reducible refine L2.methI ?_) | (with_reducible refine Rd.forZ ?_)
  | (with_reducible refine Rd.forEA ?_) | (with_reducible refine Rd.forR1 ?_) | (with_reducible refine Rd.forR2 ?_) | (with_reducible refine Rd.forL ?_) | (with_reducible refine Rd.forT ?_)
  | (with_reducible refine Rd.call ?_) | (with_reducible refine Rd.asgG ?_) | (with_reducible refine Rd.gNm ?_) | (with_reducible refine Rd.gSb ?_) | (with_reducible refine Rd.gC ?_) | (with_reducible refine Rd.gN ?_)
  | ((with_reducible refine' Rd.var ?hv ?_); (case hv => exact rfl)) | (with_reducible refine Rd.c ?_) | (with_reducible refine Rd.i0 ?_) | (with_reducible refine Rd.neg ?_)
  | ((with_reducible refine' Rd.iC ?hc ?_); (case hc => first | (show (0 : Int) < _; decide) | exact ⟨by decide, by decide⟩ | exact ⟨by decide, by decide, by decide⟩ | exact .inl ⟨by decide, by decide⟩ | exact .inr ⟨by decide, by decide⟩ | exact .inl ⟨by omega, by omega⟩ | (show (0 : Int) < _; omega) | exact ⟨by omega, by omega⟩))
  | ((with_reducible refine' Rd.eqS ?hc ?_); (case hc => rfl)) | ((with_reducible refine' Rd.neS ?hc ?_); (case hc => rfl)))
local macro_rules | `(tactic| walk_at "rd") => `(tactic| repeat walk_at "rd1")
/-! ### numbers listed one after the other -/
structure Up (s : List Nat) (k : Nat) : Prop where
  at_ : ∀ (i n : Nat), s[i]? = some n → leastAt s i ≤ n ∧ n < k
  few : s.length ≤ k
theorem up_nil : Up [] 0 := ⟨fun i n h => by simp at h, Nat.le_refl _⟩
theorem Up.skip {s : List Nat} {k : Nat} (h : Up s k) : Up s (k + 1) := ⟨fun i n e => ⟨(h.at_ i n e).1, Nat.lt_succ_of_lt (h.at_ i n e).2⟩, Nat.le_succ_of_le h.few⟩
theorem Up.add {s : List Nat} {k : Nat} (h : Up s k) : Up (s ++ [k]) (k + 1) := by
  refine ⟨fun i n e => ?_, by rw [List.length_append]; have := h.few; simp; omega⟩
  by_cases hi : i < s.length
  · rw [List.getElem?_append_left hi] at e
    obtain ⟨a, b⟩ := h.at_ i n e
    refine ⟨?_, by omega⟩
    cases i with
    | zero => exact Nat.zero_le _
    | succ j =>
      show (s ++ [k]).getD j 0 + 1 ≤ n
      rw [List.getD_eq_getElem?_getD, List.getElem?_append_left (by omega), ← List.getD_eq_getElem?_getD]
      exact a
  · rw [List.getElem?_append_right (by omega)] at e
    have hz : i - s.length = 0 := by
      cases q : i - s.length with
      | zero => rfl
      | succ j => rw [q] at e; simp at e
    rw [hz] at e
    simp at e
    subst e
    refine ⟨?_, by omega⟩
    have hi2 : i = s.length := by omega
    subst hi2
    cases hs : s.length with
    | zero => exact Nat.zero_le _
    | succ j =>
      show (s ++ [k]).getD j 0 + 1 ≤ k
      rw [List.getD_eq_getElem?_getD, List.getElem?_append_left (by omega)]
      have hj : j < s.length := by omega
      rw [List.getElem?_eq_getElem hj]
      have := (h.at_ j _ (List.getElem?_eq_getElem hj)).2
      show s[j] + 1 ≤ k
      omega
theorem Up.asc {s : List Nat} {k : Nat} (h : Up s k) (hk : k ≤ 9) : Asc s := ⟨fun i n e => ⟨(h.at_ i n e).1, by have := (h.at_ i n e).2; omega⟩, Nat.le_trans h.few hk⟩
/-! ### drawn formulas -/
def spPart (K : PySem.W.Frag) (n : Nat) : Sp := fun vs H Q _ => ∃ (p s a0 a1 a2 : Addr) (m nodes : Nat) (x0 x1 x2 : List Str), vs = [.ref p, .int (m : Nat), .ref s, .int (nodes : Nat)] ∧ PotAt H p ∧ 0 < m ∧ m ≤ 9 ∧ Spot3 K H p s a0 a1 a2 x0 x1 x2 ∧ 1 ≤ nodes ∧ nodes ≤ n ∧ nodes ≤ 40 ∧
  ∀ f v H', Drn K H H' p f v → f.q.1 ≤ nodes → Q v H'
abbrev sPart : Stmt := topA i_law_part
abbrev nmsP : List Str := ["_law_pot_here", "_law_modulus", "_law_spots", "_law_nodes", "_law_way", "_law_first", "_law_second", "_law_chosen_here", "_law_test", "_law_then", "_law_left", "_law_word", "_law_value"]
theorem q_pair {o : Nat} {l r : Fm} : (Fm.pair o l r).q.1 = 1 + l.q.1 + r.q.1 := rfl
theorem q_cho {s : List Nat} {t a b : Fm} : (Fm.cho t s a b).q.1 = 1 + t.q.1 + a.q.1 + b.q.1 := rfl
section
variable {P : Program} {w : World} {K : PySem.W.Frag} {mg : Str → Option Value} {base : Heap} {f fD fP fL : Addr} {fd fdD fdP fdL : FuncData}
theorem scPart : FnScope nmsP ["_law_pot_here", "_law_modulus", "_law_spots", "_law_nodes"] (defScope sPart) := ⟨rfl, rfl, rfl, by decide +kernel, rfl, by decide +kernel, by decide +kernel⟩
theorem ok_part (F : FnP K "_law_part" sPart f fd) (gF : mg "_law_part" = some (.ref f)) (FD : FnP K "_law_draw" sDraw fD fdD) (GD : FnOk P w K mg base CX0 1 fD fdD ["_law_pot_here", "_law_many"] spDraw) (gD : mg "_law_draw" = some (.ref fD)) (FP : FnP K "_law_pick" sPick fP fdP) (GP : FnOk P w K mg base CX0 2 fP fdP ["_law_pot_here", "_law_some"] (spPick K)) (gP : mg "_law_pick" = some (.ref fP))
    (FL : FnP K "_law_leaf" sLeaf fL fdL) (GL : FnOk P w K mg base CX0 3 fL fdL ["_law_pot_here", "_law_modulus", "_law_spots"] (spLeaf K)) (gL : mg "_law_leaf" = some (.ref fL)) (gTup : mg "tuple" = none) (gRange : mg "range" = none) : ∀ n, FnOk P w K mg base CX0 (n + 4) f fd ["_law_pot_here", "_law_modulus", "_law_spots", "_law_nodes"] (spPart K n) := by
  have bD : Binds K fdD ["_law_pot_here", "_law_many"] [] := FD.bindsN fun _ _ _ _ _ _ us hl => match us, hl with | [_, _], _ => rfl
  have bP : Binds K fdP ["_law_pot_here", "_law_some"] [] := FP.bindsN fun _ _ _ _ _ _ us hl => match us, hl with | [_, _], _ => rfl
  have bL : Binds K fdL ["_law_pot_here", "_law_modulus", "_law_spots"] [] := FL.bindsN fun _ _ _ _ _ _ us hl => match us, hl with | [_, _, _], _ => rfl
  have bF : Binds K fd ["_law_pot_here", "_law_modulus", "_law_spots", "_law_nodes"] [] := F.bindsN fun _ _ _ _ _ _ us hl => match us, hl with | [_, _, _, _], _ => rfl
  have nd := scPart.nd
  intro n
  induction n with
  | zero =>
    refine F.ok scPart (fun vs H Q E h => ?_) (fun cdv A outer s H vs Q E hr h => ?_)
    · obtain ⟨p, s, a0, a1, a2, m, nodes, x0, x1, x2, rfl, _⟩ := h
      rfl
    · obtain ⟨p, s, a0, a1, a2, m, nodes, x0, x1, x2, rfl, _, _, _, _, z1, z2, _⟩ := h
      omega
  | succ n ih =>
    refine F.ok scPart (fun vs H Q E h => ?_) (fun cdv A outer s H vs Q E hr h => ?_)
    · obtain ⟨p, s, a0, a1, a2, m, nodes, x0, x1, x2, rfl, _⟩ := h
      rfl
    · obtain ⟨p, s, a0, a1, a2, m, nodes, x0, x1, x2, rfl, pt, m0, m9, sp, n1, nn, n40, q⟩ := h
      have r1 := hr.mono (show 1 ≤ n + 4 by omega)
      have r2 := hr.mono (show 2 ≤ n + 4 by omega)
      have r3 := hr.mono (show 3 ≤ n + 4 by omega)
      refine ⟨_, PSs.nox (pss_cons (ps_set (i := 4) nd rfl (Or.inl rfl) (pe_call GD r1 rfl gD FD.kp bD .nil pass0 (pa_cons (pv 0) (pa_cons pe_int pa_nil))))
        (pss_cons (ps_if (PW.pt (pw_and (pt_cmpR op_lt (pv 4) pe_int (nomark _)) (pw_and1 (pt_cmpR op_gt (pv 3) pe_int (nomark _)))))
          (pss_cons (ps_set (i := 5) nd rfl (Or.inl rfl) (pe_op op_add pe_int (pe_call GD r1 rfl gD FD.kp bD .nil pass0 (pa_cons (pv 0) (pa_cons (pe_op op_sub (pv 3) pe_int) pa_nil)))))
          (pss_cons (ps_set (i := 6) nd rfl (Or.inl rfl) (pe_op op_add pe_int (pe_call GD r1 rfl gD FD.kp bD .nil pass0 (pa_cons (pv 0) (pa_cons (pe_op op_sub (pe_op op_sub (pv 3) pe_int) (pv 5)) pa_nil)))))
          (pss_cons (ps_set (i := 7) nd rfl (Or.inl rfl) (pe_callTy call_tupV rfl gTup (by decide +kernel) (pa_cons
            (pe_lc (own := [("_law_value", 12)]) (g := gName 12) (tt := tTest (tOp rEq (tCall spDraw [] E0 (tCons (tVar 0) (tCons (tC (.int 2)) tNil))) (tC (.int 0)))) (te := tVar 12) rfl nd (pi_range1 rfl gRange (pa_cons (pv 1) pa_nil)) (blkOk_by (N := nmsP) (sc := defScope sPart) (by decide +kernel)) (fun _ _ _ _ _ => by exact pg_name (i := 12) nd rfl (Or.inl rfl))
              (fun _ _ _ _ _ => by exact pts_one (pt_cmpR op_eq (pe_call GD r1 rfl gD FD.kp bD .nil pass0 (pa_cons (pv 0) (pa_cons pe_int pa_nil))) pe_int (nomark _))) (fun _ _ _ _ _ => by exact pv 12)) pa_nil)))
          (pss_cons (ps_par (i := 8) (j := 9) (by rfl) nd rfl rfl (by decide) rfl rfl (pa_cons (pe_call ih hr rfl gF F.kp bF .nil pass0 (pa_cons (pv 0) (pa_cons (pv 1) (pa_cons (pv 2) (pa_cons (pv 5) pa_nil))))) (pa_cons (pe_call ih hr rfl gF F.kp bF .nil pass0 (pa_cons (pv 0) (pa_cons (pv 1) (pa_cons (pv 2) (pa_cons (pv 6) pa_nil))))) pa_nil)) (by rfl))
          (pss_one (ps_ret (pe_tup (pa_cons pe_str (pa_cons (pv 8) (pa_cons (pv 7) (pa_cons (pv 9) (pa_cons (pe_call ih hr rfl gF F.kp bF .nil pass0 (pa_cons (pv 0) (pa_cons (pv 1) (pa_cons (pv 2) (pa_cons (pe_op op_sub (pe_op op_sub (pe_op op_sub (pv 3) pe_int) (pv 5)) (pv 6)) pa_nil))))) pa_nil)))))))))))) pss_nil)
        (pss_cons (ps_if (PW.pt (pw_and (pt_cmpR op_lt (pv 4) pe_int (nomark _)) (pw_and1 (pt_cmpR op_gt (pv 3) pe_int (nomark _)))))
          (pss_cons (ps_set (i := 5) nd rfl (Or.inl rfl) (pe_op op_add pe_int (pe_call GD r1 rfl gD FD.kp bD .nil pass0 (pa_cons (pv 0) (pa_cons (pe_op op_sub (pv 3) pe_int) pa_nil)))))
          (pss_cons (ps_set (i := 10) nd rfl (Or.inl rfl) (pe_call ih hr rfl gF F.kp bF .nil pass0 (pa_cons (pv 0) (pa_cons (pv 1) (pa_cons (pv 2) (pa_cons (pv 5) pa_nil))))))
          (pss_cons (ps_set (i := 11) nd rfl (Or.inl rfl) (pe_call GP r2 rfl gP FP.kp bP .nil pass0 (pa_cons (pv 0) (pa_cons (pe_lst (pa_cons pe_str (pa_cons pe_str (pa_cons pe_str (pa_cons pe_str (pa_cons pe_str pa_nil)))))) pa_nil))))
          (pss_one (ps_ret (pe_tup (pa_cons (pv 11) (pa_cons (pv 10) (pa_cons (pe_call ih hr rfl gF F.kp bF .nil pass0 (pa_cons (pv 0) (pa_cons (pv 1) (pa_cons (pv 2) (pa_cons (pe_op op_sub (pe_op op_sub (pv 3) pe_int) (pv 5)) pa_nil))))) pa_nil))))))))) pss_nil)
        (pss_one (ps_ret (pe_call GL r3 rfl gL FL.kp bL .nil pass0 (pa_cons (pv 0) (pa_cons (pv 1) (pa_cons (pv 2) pa_nil))))))))), ?_⟩
      walk_at "rd"
      refine ⟨p, _, rfl, pt, by decide, by decide, fun d H1 d0 dl p1 b1 => ?_⟩
      have sp1 := sp.but pt b1
      walk_at "rd"
      refine Rd.ifB (fun z => ?_) (fun z => ?_)
      · walk_at "rd"
        refine Rd.ifB (fun z2 => ?_) (fun z2 => ?_)
        · walk_at "rd"
          have g3 : 3 < nodes := by have := of_decide_eq_true z2; omega
          refine ⟨p, _, rfl, p1, by omega, Int.lt_trans (show (nodes : Int) - 3 < 41 by omega) (by decide +kernel), fun d1 H2 d10 d1l p2 b2 => ?_⟩
          obtain ⟨e1, rfl⟩ := Int.eq_ofNat_of_zero_le d10
          walk_at "rd"
          refine ⟨p, _, rfl, p2, by omega, Int.lt_trans (show (nodes : Int) - 2 - (1 + (e1 : Nat)) < 41 by omega) (by decide +kernel), fun d2 H3 d20 d2l p3 b3 => ?_⟩
          obtain ⟨e2, rfl⟩ := Int.eq_ofNat_of_zero_le d20
          have c1 : (1 : Int) + (e1 : Nat) = ((1 + e1 : Nat) : Int) := by omega
          have c2 : (1 : Int) + (e2 : Nat) = ((1 + e2 : Nat) : Int) := by omega
          have c3 : (nodes : Int) - 1 - ((1 + e1 : Nat) : Int) - ((1 + e2 : Nat) : Int) = ((nodes - 1 - (1 + e1) - (1 + e2) : Nat) : Int) := by omega
          walk_at "rd"
          rw [c1, c2]
          refine lcF1 ?_
          walk_at "rd"
          refine ⟨_, rfl, by omega, by omega, ?_⟩
          rw [Int.toNat_natCast]
          refine lcGenF (fun k acc H => PotAt H p ∧ But p H3 H ∧ ∃ s : List Nat, acc = s.map natV ∧ Up s k) (fun k acc H => PotAt H p ∧ But p H3 H ∧ ∃ s : List Nat, acc = s.map natV ∧ Up s k) rfl (by omega) ⟨p3, But.refl, [], rfl, up_nil⟩ (fun k acc H D o hD j => ?_) (fun k acc H QB hk j qb => ?_) (fun k acc H Q' hk j q' => ?_) (fun D acc H4 hD j hd => ?_)
          · obtain ⟨⟨x, y, jp, jr⟩, jb, js⟩ := j
            obtain ⟨x3, y3, jp3, _⟩ := p3
            have np : p ≠ D := ne_of_none jp3 hD
            exact ⟨⟨x, y, by rw [upd_ne np]; exact jp, jr⟩, fun b o hb e => by rw [upd_ne (ne_of_none e hD)]; exact jb b o hb e, js⟩
          · obtain ⟨jp, jb, sl, es, up⟩ := j
            walk_at "rd"
            refine ⟨p, _, rfl, jp, by decide, by decide, fun d H5 d0 dl p5 b5 => ?_⟩
            walk_at "rd"
            refine qb _ H5 (fun b o hb e => b5 b o (fun ep => ?_) e) (fun _ => ⟨p5, jb.trans b5, sl, es, up.skip⟩) (fun _ => ⟨p5, jb.trans b5, sl, es, up⟩)
            obtain ⟨x3, y3, jp3, _⟩ := p3
            rw [ep, jp3] at hb
            cases hb
          · obtain ⟨jp, jb, sl, es, up⟩ := j
            walk_at "rd"
            refine q' _ H (fun _ _ _ e => e) ⟨jp, jb, sl ++ [k], ?_, up.add⟩
            rw [List.map_append, es, Int.zero_add]
            rfl
          obtain ⟨p4, b4, sl, es, up⟩ := j
          subst es
          refine ⟨D, _, rfl, .inl (SqL.of hd), fun t H5 s5 ht => ?_⟩
          have p5 := pot_same p4 s5
          have b15 := (b2.trans b3).trans (b4.trans (butS' (p := p) s5))
          walk_at "rd"
          refine ⟨p, s, a0, a1, a2, m, 1 + e1, x0, x1, x2, rfl, p5, m0, m9, sp1.but p1 b15, by omega, by omega, by omega, fun g1 v1 H6 r1' l1 => ?_⟩
          have b16 := b15.trans r1'.but
          walk_at "rd"
          refine ⟨p, s, a0, a1, a2, m, 1 + e2, x0, x1, x2, rfl, r1'.pot, m0, m9, sp1.but p1 b16, by omega, by omega, by omega, fun g2 v2 H7 r2' l2 => ?_⟩
          have b17 := b16.trans r2'.but
          walk_at "rd"
          refine ⟨v1, v2, rfl, ?_⟩
          walk_at "rd"
          rw [c3]
          refine ⟨p, s, a0, a1, a2, m, _, x0, x1, x2, rfl, r2'.pot, m0, m9, sp1.but p1 b17, by omega, by omega, by omega, fun g3' v3 H8 r3' l3 => ?_⟩
          walk_at "rd"
          refine ⟨Rd.small (by show 5 ≤ 100000; decide), fun r n9 => ?_⟩
          have s9 := same_new (o := HO.tup ([V.str "choice", v1, V.ref t, v2, v3])) n9
          have t9 := upd_same (H := H8) (a := r) (o := HO.tup ([V.str "choice", v1, V.ref t, v2, v3]))
          generalize upd H8 r (HO.tup ([V.str "choice", v1, V.ref t, v2, v3])) = H9 at s9 t9 ⊢
          have k58 := (kp_pot p5 r1'.but).trans ((kp_pot r1'.pot r2'.but).trans (kp_pot r2'.pot r3'.but))
          have k9 := kp_same s9
          refine q (.cho g1 sl g2 g3') (.ref r) H9 ⟨pot_same r3'.pot s9, (b1.trans b17).trans (r3'.but.trans (butS' s9)), ⟨r, v1, t, v2, v3, rfl, SqT.of t9, r1'.at_.kp (((kp_pot r1'.pot r2'.but).trans (kp_pot r2'.pot r3'.but)).trans k9), sqt_kp (k58.trans k9) ht, r2'.at_.kp ((kp_pot r2'.pot r3'.but).trans k9), r3'.at_.kp k9⟩, ⟨up.asc m9, r1'.ok, r2'.ok, r3'.ok⟩, r1'.nz, r2'.nz, r3'.nz⟩ ?_
          rw [q_cho]
          omega
        · walk_at "rd"
          refine Rd.ifB (fun y => ?_) (fun y => ?_)
          · walk_at "rd"
            refine Rd.ifB (fun z2 => ?_) (fun z2 => ?_)
            · walk_at "rd"
              have g2 : 2 < nodes := by have := of_decide_eq_true z2; omega
              refine ⟨p, _, rfl, p1, by omega, Int.lt_trans (show (nodes : Int) - 2 < 41 by omega) (by decide +kernel), fun d1 H2 d10 d1l p2 b2 => ?_⟩
              obtain ⟨e1, rfl⟩ := Int.eq_ofNat_of_zero_le d10
              have c1 : (1 : Int) + (e1 : Nat) = ((1 + e1 : Nat) : Int) := by omega
              have c3 : (nodes : Int) - 1 - ((1 + e1 : Nat) : Int) = ((nodes - 1 - (1 + e1) : Nat) : Int) := by omega
              walk_at "rd"
              rw [c1]
              refine ⟨p, s, a0, a1, a2, m, 1 + e1, x0, x1, x2, rfl, p2, m0, m9, sp1.but p1 b2, by omega, by omega, by omega, fun g1 v1 H6 r1' l1 => ?_⟩
              have b16 := b2.trans r1'.but
              walk_at "rd"
              refine ⟨Rd.small (by show 5 ≤ 100000; decide), fun wl n7 => ?_⟩
              have s7 := same_new (o := HO.lst ([V.str "plus", V.str "plus", V.str "least", V.str "most", V.str "same"])) n7
              have t7 := upd_same (H := H6) (a := wl) (o := HO.lst ([V.str "plus", V.str "plus", V.str "least", V.str "most", V.str "same"]))
              generalize upd H6 wl (HO.lst ([V.str "plus", V.str "plus", V.str "least", V.str "most", V.str "same"])) = H7 at s7 t7 ⊢
              walk_at "rd"
              have p7 := pot_same r1'.pot s7
              have np : wl ≠ p := fun e => by
                obtain ⟨x, y, jp, _⟩ := r1'.pot
                rw [e, jp] at n7
                cases n7
              refine ⟨p, wl, _, rfl, p7, t7, np, (by decide), (by show 5 < 1000000; decide), fun wv H8 mw p8 b8 => ?_⟩
              have wo : ∃ o, o < 4 ∧ wv = .str (pairWord o) := by
                simp only [List.mem_cons, List.not_mem_nil, or_false] at mw
                rcases mw with e | e | e | e | e
                · exact ⟨0, by decide, e⟩
                · exact ⟨0, by decide, e⟩
                · exact ⟨1, by decide, e⟩
                · exact ⟨2, by decide, e⟩
                · exact ⟨3, by decide, e⟩
              obtain ⟨o, ho, rfl⟩ := wo
              have b18 := b16.trans ((butS' (p := p) s7).trans b8)
              walk_at "rd"
              rw [c3]
              refine ⟨p, s, a0, a1, a2, m, _, x0, x1, x2, rfl, p8, m0, m9, sp1.but p1 b18, by omega, by omega, by omega, fun g2' v2 H9 r2' l2 => ?_⟩
              walk_at "rd"
              refine ⟨Rd.small (by show 3 ≤ 100000; decide), fun r n9 => ?_⟩
              have s9 := same_new (o := HO.tup ([V.str (pairWord o), v1, v2])) n9
              have t9 := upd_same (H := H9) (a := r) (o := HO.tup ([V.str (pairWord o), v1, v2]))
              generalize upd H9 r (HO.tup ([V.str (pairWord o), v1, v2])) = Hz at s9 t9 ⊢
              have k9 := kp_same s9
              refine q (.pair o g1 g2') (.ref r) Hz ⟨pot_same r2'.pot s9, (b1.trans b18).trans (r2'.but.trans (butS' s9)), ⟨r, v1, v2, rfl, SqT.of t9, r1'.at_.kp ((kp_same s7).trans ((kp_pot p7 b8).trans ((kp_pot p8 r2'.but).trans k9))), r2'.at_.kp k9⟩, ⟨ho, r1'.ok, r2'.ok⟩, r1'.nz, r2'.nz⟩ ?_
              rw [q_pair]
              omega
            · walk_at "rd"
              exact ⟨p, s, a0, a1, a2, m, x0, x1, x2, rfl, p1, m0, m9, sp1, fun g v H2 dr le => q g v H2 ⟨dr.pot, b1.trans dr.but, dr.at_, dr.ok, dr.nz⟩ (Nat.le_trans le n1)⟩
          · refine iteF ?_
            walk_at "rd"
            exact ⟨p, s, a0, a1, a2, m, x0, x1, x2, rfl, p1, m0, m9, sp1, fun g v H2 dr le => q g v H2 ⟨dr.pot, b1.trans dr.but, dr.at_, dr.ok, dr.nz⟩ (Nat.le_trans le n1)⟩
      · refine iteF ?_
        walk_at "rd"
        refine Rd.ifB (fun y => ?_) (fun y => ?_)
        · walk_at "rd"
          refine Rd.ifB (fun z2 => ?_) (fun z2 => ?_)
          · walk_at "rd"
            have g2 : 2 < nodes := by have := of_decide_eq_true z2; omega
            refine ⟨p, _, rfl, p1, by omega, Int.lt_trans (show (nodes : Int) - 2 < 41 by omega) (by decide +kernel), fun d1 H2 d10 d1l p2 b2 => ?_⟩
            obtain ⟨e1, rfl⟩ := Int.eq_ofNat_of_zero_le d10
            have c1 : (1 : Int) + (e1 : Nat) = ((1 + e1 : Nat) : Int) := by omega
            have c3 : (nodes : Int) - 1 - ((1 + e1 : Nat) : Int) = ((nodes - 1 - (1 + e1) : Nat) : Int) := by omega
            walk_at "rd"
            rw [c1]
            refine ⟨p, s, a0, a1, a2, m, 1 + e1, x0, x1, x2, rfl, p2, m0, m9, sp1.but p1 b2, by omega, by omega, by omega, fun g1 v1 H6 r1' l1 => ?_⟩
            have b16 := b2.trans r1'.but
            walk_at "rd"
            refine ⟨Rd.small (by show 5 ≤ 100000; decide), fun wl n7 => ?_⟩
            have s7 := same_new (o := HO.lst ([V.str "plus", V.str "plus", V.str "least", V.str "most", V.str "same"])) n7
            have t7 := upd_same (H := H6) (a := wl) (o := HO.lst ([V.str "plus", V.str "plus", V.str "least", V.str "most", V.str "same"]))
            generalize upd H6 wl (HO.lst ([V.str "plus", V.str "plus", V.str "least", V.str "most", V.str "same"])) = H7 at s7 t7 ⊢
            walk_at "rd"
            have p7 := pot_same r1'.pot s7
            have np : wl ≠ p := fun e => by
              obtain ⟨x, y, jp, _⟩ := r1'.pot
              rw [e, jp] at n7
              cases n7
            refine ⟨p, wl, _, rfl, p7, t7, np, (by decide), (by show 5 < 1000000; decide), fun wv H8 mw p8 b8 => ?_⟩
            have wo : ∃ o, o < 4 ∧ wv = .str (pairWord o) := by
              simp only [List.mem_cons, List.not_mem_nil, or_false] at mw
              rcases mw with e | e | e | e | e
              · exact ⟨0, by decide, e⟩
              · exact ⟨0, by decide, e⟩
              · exact ⟨1, by decide, e⟩
              · exact ⟨2, by decide, e⟩
              · exact ⟨3, by decide, e⟩
            obtain ⟨o, ho, rfl⟩ := wo
            have b18 := b16.trans ((butS' (p := p) s7).trans b8)
            walk_at "rd"
            rw [c3]
            refine ⟨p, s, a0, a1, a2, m, _, x0, x1, x2, rfl, p8, m0, m9, sp1.but p1 b18, by omega, by omega, by omega, fun g2' v2 H9 r2' l2 => ?_⟩
            walk_at "rd"
            refine ⟨Rd.small (by show 3 ≤ 100000; decide), fun r n9 => ?_⟩
            have s9 := same_new (o := HO.tup ([V.str (pairWord o), v1, v2])) n9
            have t9 := upd_same (H := H9) (a := r) (o := HO.tup ([V.str (pairWord o), v1, v2]))
            generalize upd H9 r (HO.tup ([V.str (pairWord o), v1, v2])) = Hz at s9 t9 ⊢
            have k9 := kp_same s9
            refine q (.pair o g1 g2') (.ref r) Hz ⟨pot_same r2'.pot s9, (b1.trans b18).trans (r2'.but.trans (butS' s9)), ⟨r, v1, v2, rfl, SqT.of t9, r1'.at_.kp ((kp_same s7).trans ((kp_pot p7 b8).trans ((kp_pot p8 r2'.but).trans k9))), r2'.at_.kp k9⟩, ⟨ho, r1'.ok, r2'.ok⟩, r1'.nz, r2'.nz⟩ ?_
            rw [q_pair]
            omega
          · walk_at "rd"
            exact ⟨p, s, a0, a1, a2, m, x0, x1, x2, rfl, p1, m0, m9, sp1, fun g v H2 dr le => q g v H2 ⟨dr.pot, b1.trans dr.but, dr.at_, dr.ok, dr.nz⟩ (Nat.le_trans le n1)⟩
        · refine iteF ?_
          walk_at "rd"
          exact ⟨p, s, a0, a1, a2, m, x0, x1, x2, rfl, p1, m0, m9, sp1, fun g v H2 dr le => q g v H2 ⟨dr.pot, b1.trans dr.but, dr.at_, dr.ok, dr.nz⟩ (Nat.le_trans le n1)⟩
end
end K12

namespace L2
open PySem PySem.Spec PyProof.Rows
theorem call_repr_str {X : Cx} : CallR X (.builtin "repr") (fun xs H Q => ∃ y : Str, xs = [.str y] ∧ (reprText y).length ≤ sizeLine ∧ Q (.str (reprText y)) H) := by
  intro pins s σ H xs us Q I r h
  obtain ⟨y, rfl, hz, q⟩ := h
  obtain ⟨u, rfl, t, rfl⟩ := vals1 r
  exact PySem.P.repr_of_str (hsz := hz) ⟨.str _, H, I.tok _, ⟨_, rfl⟩, q⟩
/-- a comprehension over a tuple -/
theorem lcT {K : PySem.W.Frag} {tl te : TE} {i : Nat} {ii : List Nat} {σ : L2.St} {H : Hp} {Q : VK} (h : tl σ H fun x H1 => ∃ a, x = .ref a ∧ (∃ xs, SqT K H1 a xs) ∧ LcJ (Itt K a) i ii te σ H1 Q) : tLc (iTup K tl) (gName i) tYes te ii σ H Q := h
/-- .. whose elements only make objects -/
theorem lcTS {K : PySem.W.Frag} {a : Addr} {i : Nat} {ii : List Nat} {te : TE} {σ : L2.St} {H1 : Hp} {Q : VK} {xs : List V} {ys : Nat → V} (hi : ii = [i]) (hl : xs.length ≤ 100000) (hx : SqT K H1 a xs)
    (ht : ∀ k x, xs[k]? = some x → ∀ (H2 : Hp) (Q' : VK), Same H1 H2 → (∀ H3, Same H2 H3 → Q' (ys k) H3) → te ((wipe σ [i]).set i (some x)) H2 Q')
    (q : ∀ D (H2 : Hp), Same H1 H2 → H2 D = some (.lst ((List.range xs.length).map ys)) → Q (.ref D) H2) : LcJ (Itt K a) i ii te σ H1 Q := by
  subst hi
  intro D hD
  have st : ∀ {H2 : Hp} {o : HO}, Same H1 H2 → Same H1 (upd H2 D o) := fun s b u e => by rw [upd_ne (ne_of_none e hD)]; exact s b u e
  refine lc_it walk_tup (fun k H2 => Same H1 H2 ∧ H2 D = some (.lst ((List.range k).map ys))) ⟨st (Same.refl _), upd_same⟩ (fun _ _ _ p => hx.ext p.1) (fun k x H H' hk p hy => ?_) fun H2 p => q D H2 p.1 p.2
  obtain ⟨rfl, ex⟩ := hy
  obtain ⟨s2, c⟩ := p
  refine ⟨by show List.set (List.set (List.set σ i none) i _) i none = List.set σ i none; rw [List.set_set, List.set_set], iteT (B := Same H1 H' ∧ H' D = some (.lst ((List.range (k + 1)).map ys))) ?_⟩
  refine ht k x ex H' _ s2 fun H3 s3 => ⟨(List.range k).map ys, s3 _ _ c, ?_, st (s2.trans s3), ?_⟩
  · rw [List.length_map, List.length_range]
    exact Nat.lt_of_lt_of_le (show k < 100001 by omega) (by decide)
  · rw [upd_same, List.range_succ, List.map_append]
    rfl
end L2
namespace K12
open PySem PySem.Spec PyProof.Rows L2
local macro_rules | `(tactic| walk_at "rd1") => `(tactic| first
  | (with_reducible refine Rd.seq ?_) | (with_reducible refine Rd.asg ?_) | (with_reducible refine Rd.ret ?_) | (with_reducible refine Rd.nxt ?_) | (with_reducible refine Rd.ifS ?_)
  | (with_reducible refine Rd.op ?_) | (with_reducible refine Rd.un ?_) | (with_reducible refine Rd.cb ?_) | (with_reducible refine Rd.cons ?_) | (with_reducible refine Rd.nil ?_) | (with_reducible refine Rd.ifx ?_)
  | (with_reducible refine Rd.test ?_) | (with_reducible refine Rd.testB ?_) | (with_reducible refine Rd.notT ?_) | (with_reducible refine Rd.isB ?_) | (with_reducible refine Rd.lst ?_) | (with_reducible refine Rd.tup ?_)
  | (with_reducible refine Rd.andV ?_) | (with_reducible refine Rd.orV ?_) | (with_reducible refine Rd.notV ?_) | (with_reducible refine Rd.andT ?_) | (with_reducible refine Rd.orT ?_) | (with_reducible refine Rd.chain ?_)
  | (with_reducible refine Rd.m0 ?_) | (with_reducible refine Rd.m1 ?_) | (with_reducible refine Rd.bm0 ?_) | (with_reducible refine Rd.bm ?_) | (with_reducible refine Rd.sl ?_) | (with_reducible refine Rd.part ?_) | (with_reducible refine Rd.part0 ?_) | (with_reducible refine Rd.isI ?_)
  | (with_reducible refine Rd.fmt ?_) | (with_reducible refine Rd.fmtRD ?_) | (with_reducible refine Rd.meth ?_) | (with_reducible refine makeG ?_) | (with_reducible refine Rd.prop ?_) | (with_reducible refine Rd.js ?_) | (with_reducible refine Rd.js0 ?_) | (with_reducible refine Rd.par ?_) | (with_reducible refine Rd.star ?_) | (with_reducible refine lcR1 ?_) | (with_reducible refine lcR2 ?_) | (with_reducible refine Rd.fld ?_) | (with_reducible refine Rd.sfld ?_) | (with_reducible refine Rd.expr ?_) | (with_reducible refine L2.isNR ?_) | (with_reducible refine L2.methI ?_) | (with_reducible refine Rd.forZ ?_)
  | (with_reducible refine Rd.forEA ?_) | (with_reducible refine Rd.forR1 ?_) | (with_reducible refine Rd.forR2 ?_) | (with_reducible refine Rd.forL ?_) | (with_reducible refine Rd.forT ?_)
  | (with_reducible refine Rd.call ?_) | (with_reducible refine Rd.asgG ?_) | (with_reducible refine Rd.gNm ?_) | (with_reducible refine Rd.gSb ?_) | (with_reducible refine Rd.gC ?_) | (with_reducible refine Rd.gN ?_)
  | ((with_reducible refine' Rd.var ?hv ?_); (case hv => exact rfl)) | (with_reducible refine Rd.c ?_) | (with_reducible refine Rd.i0 ?_) | (with_reducible refine Rd.neg ?_)
  | ((with_reducible refine' Rd.iC ?hc ?_); (case hc => first | (show (0 : Int) < _; decide) | exact ⟨by decide, by decide⟩ | exact ⟨by decide, by decide, by decide⟩ | exact .inl ⟨by decide, by decide⟩ | exact .inr ⟨by decide, by decide⟩ | exact .inl ⟨by omega, by omega⟩ | (show (0 : Int) < _; omega) | exact ⟨by omega, by omega⟩))
  | ((with_reducible refine' Rd.eqS ?hc ?_); (case hc => rfl)) | ((with_reducible refine' Rd.neS ?hc ?_); (case hc => rfl)))
local macro_rules | `(tactic| walk_at "rd") => `(tactic| repeat walk_at "rd1")
theorem jn_cons (s x y : Str) (r : List Str) : Str.join s (x :: y :: r) = x ++ s ++ Str.join s (y :: r) := by
  rfl
theorem jn_len (s : Str) : ∀ L : List Str, (Str.join s L).length ≤ (L.map (·.length)).sum + L.length * s.length
  | [] => Nat.zero_le _
  | [a] => by
    show a.length ≤ _
    simp
  | a :: b :: L => by
    have ih := jn_len s (b :: L)
    rw [jn_cons, Str.length_append, Str.length_append]
    rw [List.map_cons, List.sum_cons, List.length_cons, Nat.succ_mul]
    omega
theorem sum_le {α : Type} {f : α → Nat} {B : Nat} : ∀ l : List α, (∀ x ∈ l, f x ≤ B) → (l.map f).sum ≤ l.length * B
  | [], _ => by simp
  | x :: l, h => by
    rw [List.map_cons, List.sum_cons, List.length_cons, Nat.succ_mul]
    have := h x List.mem_cons_self
    have := sum_le l fun y hy => h y (List.mem_cons_of_mem _ hy)
    omega

/-! ### repr of formulas -/
def wrap (x : Str) (l : List Str) : Str := (((Str.empty ++ x) ++ "(") ++ Str.join ", " l) ++ ")"
def numsD (s : List Nat) : PyData := .tuple (s.map fun n => .int (n : Nat))
def reprOf : Fm → Str
  | .num n => wrap "Number" [(PyData.int (n : Nat)).shown]
  | .ref w x => wrap (refName w) [(PyData.str x).shown]
  | .pair o l r => wrap (pairName o) [reprOf l, reprOf r]
  | .cho t s a b => wrap "Choice" [reprOf t, (numsD s).shown, reprOf a, reprOf b]
theorem num_len : ∀ n, n < 9 → (PyData.int (n : Nat)).shown.length = 1 := by decide +kernel
theorem shownAll_nums : ∀ s : List Nat, PyData.shownAll (s.map fun n => PyData.int (n : Nat)) = s.map fun n => (PyData.int (n : Nat)).shown
  | [] => by simp only [List.map_nil, PyData.shownAll]
  | n :: s => by simp only [List.map_cons, PyData.shownAll, shownAll_nums s]
theorem Asc.le8 {s : List Nat} (h : Asc s) : ∀ n ∈ s, n < 9 := fun n hn => by
  obtain ⟨i, hi⟩ := List.mem_iff_getElem?.mp hn
  have := (h.at_ i n hi).2
  omega
theorem Asc.shown {s : List Nat} (h : Asc s) : (numsD s).shown.length ≤ 60 := by
  unfold numsD
  rw [PyData.shown_tuple, Str.length_append, Str.length_append, shownAll_nums]
  have a := jn_len ", " (s.map fun n => (PyData.int (n : Nat)).shown)
  have b : ((s.map fun n => (PyData.int (n : Nat)).shown).map (·.length)).sum ≤ 9 := by
    have z := sum_le (f := fun x : Str => x.length) (B := 1) (s.map fun n => (PyData.int (n : Nat)).shown) fun x hx => by
      obtain ⟨y, hy, rfl⟩ := List.mem_map.mp hx
      exact Nat.le_of_eq (num_len y (h.le8 y hy))
    rw [List.length_map] at z
    have := h.few
    omega
  have c := h.few
  have d : (", " : Str).length = 2 := by decide +kernel
  have e : ("(" : Str).length = 1 := by decide +kernel
  have f : ∀ k : Bool, (((if k = true then ",)" else ")" : String)) : Str).length ≤ 2 := by decide +kernel
  have g := f ((s.map fun n => PyData.int (n : Nat)).length == 1)
  rw [List.length_map, d] at a
  rw [e]
  omega
theorem wrap_len {x : Str} {l : List Str} {B : Nat} (hx : x.length ≤ 6) (h : (l.map (·.length)).sum + l.length * 2 ≤ B) : (wrap x l).length ≤ B + 8 := by
  unfold wrap
  have a := jn_len ", " l
  have d : (", " : Str).length = 2 := by decide +kernel
  have e : ("(" : Str).length = 1 := by decide +kernel
  have f : (")" : Str).length = 1 := by decide +kernel
  rw [d] at a
  rw [Str.length_append, Str.length_append, Str.length_append, Str.empty_append, e, f]
  omega
end K12

namespace K12
open PySem PySem.Spec PyProof.Rows L2
local macro_rules | `(tactic| walk_at "rd1") => `(tactic| first
  | (with_reducible refine Rd.seq ?_) | (with_reducible refine Rd.asg ?_) | (with_reducible refine Rd.ret ?_) | (with_reducible refine Rd.nxt ?_) | (with_reducible refine Rd.ifS ?_)
  | (with_reducible refine Rd.op ?_) | (with_reducible refine Rd.un ?_) | (with_reducible refine Rd.cb ?_) | (with_reducible refine Rd.cons ?_) | (with_reducible refine Rd.nil ?_) | (with_reducible refine Rd.ifx ?_)
  | (with_reducible refine Rd.test ?_) | (with_reducible refine Rd.testB ?_) | (with_reducible refine Rd.notT ?_) | (with_reducible refine Rd.isB ?_) | (with_reducible refine Rd.lst ?_) | (with_reducible refine Rd.tup ?_)
  | (with_reducible refine Rd.andV ?_) | (with_reducible refine Rd.orV ?_) | (with_reducible refine Rd.notV ?_) | (with_reducible refine Rd.andT ?_) | (with_reducible refine Rd.orT ?_) | (with_reducible refine Rd.chain ?_)
  | (with_reducible refine Rd.m0 ?_) | (with_reducible refine Rd.m1 ?_) | (with_reducible refine Rd.bm0 ?_) | (with_reducible refine Rd.bm ?_) | (with_reducible refine Rd.sl ?_) | (with_reducible refine Rd.part ?_) | (with_reducible refine Rd.part0 ?_) | (with_reducible refine Rd.isI ?_)
  | (with_reducible refine Rd.fmt ?_) | (with_reducible refine Rd.fmtRD ?_) | (with_reducible refine Rd.meth ?_) | (with_reducible refine makeG ?_) | (with_reducible refine Rd.prop ?_) | (with_reducible refine Rd.js ?_) | (with_reducible refine Rd.js0 ?_) | (with_reducible refine Rd.par ?_) | (with_reducible refine Rd.star ?_) | (with_reducible refine lcR1 ?_) | (with_reducible refine lcR2 ?_) | (with_reducible refine Rd.fld ?_) | (with_reducible refine Rd.sfld ?_) | (with_reducible refine Rd.expr ?_) | (with_reducible refine L2.isNR ?_) | (with_reducible refine L2.methI ?_) | (with_reducible refine Rd.forZ ?_)
  | (with_reducible refine Rd.forEA ?_) | (with_reducible refine Rd.forR1 ?_) | (with_reducible refine Rd.forR2 ?_) | (with_reducible refine Rd.forL ?_) | (with_reducible refine Rd.forT ?_)
  | (with_reducible refine Rd.call ?_) | (with_reducible refine Rd.asgG ?_) | (with_reducible refine Rd.gNm ?_) | (with_reducible refine Rd.gSb ?_) | (with_reducible refine Rd.gC ?_) | (with_reducible refine Rd.gN ?_)
  | ((with_reducible refine' Rd.var ?hv ?_); (case hv => exact rfl)) | (with_reducible refine Rd.c ?_) | (with_reducible refine Rd.i0 ?_) | (with_reducible refine Rd.neg ?_)
  | ((with_reducible refine' Rd.iC ?hc ?_); (case hc => first | (show (0 : Int) < _; decide) | exact ⟨by decide, by decide⟩ | exact ⟨by decide, by decide, by decide⟩ | exact .inl ⟨by decide, by decide⟩ | exact .inr ⟨by decide, by decide⟩ | exact .inl ⟨by omega, by omega⟩ | (show (0 : Int) < _; omega) | exact ⟨by omega, by omega⟩))
  | ((with_reducible refine' Rd.eqS ?hc ?_); (case hc => rfl)) | ((with_reducible refine' Rd.neS ?hc ?_); (case hc => rfl)))
local macro_rules | `(tactic| walk_at "rd") => `(tactic| repeat walk_at "rd1")
def fmDec : (x y : Fm) → Decidable (x = y)
  | .num n, .num m => if h : n = m then Decidable.isTrue (by rw [h]) else isFalse (fun e => h (Fm.num.inj e))
  | .ref w c, .ref v d => if h : w = v ∧ c = d then Decidable.isTrue (by rw [h.1, h.2]) else isFalse (fun e => h (Fm.ref.inj e))
  | .pair o l r, .pair p m s =>
    match decEq o p, fmDec l m, fmDec r s with
    | Decidable.isTrue h1, Decidable.isTrue h2, Decidable.isTrue h3 => Decidable.isTrue (by rw [h1, h2, h3])
    | isFalse h, _, _ => isFalse (fun e => h (Fm.pair.inj e).1)
    | _, isFalse h, _ => isFalse (fun e => h (Fm.pair.inj e).2.1)
    | _, _, isFalse h => isFalse (fun e => h (Fm.pair.inj e).2.2)
  | .cho t s a b, .cho u v c d =>
    match fmDec t u, decEq s v, fmDec a c, fmDec b d with
    | Decidable.isTrue h1, Decidable.isTrue h2, Decidable.isTrue h3, Decidable.isTrue h4 => Decidable.isTrue (by rw [h1, h2, h3, h4])
    | isFalse h, _, _, _ => isFalse (fun e => h (Fm.cho.inj e).1)
    | _, isFalse h, _, _ => isFalse (fun e => h (Fm.cho.inj e).2.1)
    | _, _, isFalse h, _ => isFalse (fun e => h (Fm.cho.inj e).2.2.1)
    | _, _, _, isFalse h => isFalse (fun e => h (Fm.cho.inj e).2.2.2)
  | .num _, .ref _ _ => isFalse (fun e => by cases e)
  | .num _, .pair _ _ _ => isFalse (fun e => by cases e)
  | .num _, .cho _ _ _ _ => isFalse (fun e => by cases e)
  | .ref _ _, .num _ => isFalse (fun e => by cases e)
  | .ref _ _, .pair _ _ _ => isFalse (fun e => by cases e)
  | .ref _ _, .cho _ _ _ _ => isFalse (fun e => by cases e)
  | .pair _ _ _, .num _ => isFalse (fun e => by cases e)
  | .pair _ _ _, .ref _ _ => isFalse (fun e => by cases e)
  | .pair _ _ _, .cho _ _ _ _ => isFalse (fun e => by cases e)
  | .cho _ _ _ _, .num _ => isFalse (fun e => by cases e)
  | .cho _ _ _ _, .ref _ _ => isFalse (fun e => by cases e)
  | .cho _ _ _ _, .pair _ _ _ => isFalse (fun e => by cases e)
instance : DecidableEq Fm := fmDec
/-! ### one object is one formula -/
def rank : Fm → Nat
  | .num _ => 0
  | .ref w _ => 1 + w
  | .pair o _ _ => 4 + o
  | .cho .. => 8
def rankN : Nat → Str
  | 0 => "Number"
  | 1 => "Here"
  | 2 => "Up"
  | 3 => "Down"
  | 4 => "Plus"
  | 5 => "Least"
  | 6 => "Most"
  | 7 => "Same"
  | _ => "Choice"
theorem rank_lt {f : Fm} (h : Okf f) : rank f < 9 ∧ nameOf f = rankN (rank f) := by
  cases f with
  | num n => exact ⟨by show 0 < 9; decide, rfl⟩
  | ref w x =>
    obtain ⟨hw, _⟩ := h
    have hw : w = 0 ∨ w = 1 ∨ w = 2 := by omega
    rcases hw with rfl | rfl | rfl <;> exact ⟨by show 1 + _ < 9; omega, rfl⟩
  | pair o l r =>
    obtain ⟨hw, _⟩ := h
    have hw : o = 0 ∨ o = 1 ∨ o = 2 ∨ o = 3 := by omega
    rcases hw with rfl | rfl | rfl | rfl <;> exact ⟨by show 4 + _ < 9; omega, rfl⟩
  | cho t s a b => exact ⟨by show 8 < 9; decide, rfl⟩
theorem rankN_inj : ∀ i, i < 9 → ∀ j, j < 9 → rankN i = rankN j → i = j := by decide +kernel
theorem rank_of {f g : Fm} (hf : Okf f) (hg : Okf g) (h : nameOf f = nameOf g) : rank f = rank g := by
  obtain ⟨a, b⟩ := rank_lt hf
  obtain ⟨a', b'⟩ := rank_lt hg
  exact rankN_inj _ a _ a' (by rw [← b, ← b', h])
theorem sqt_inj {K : PySem.W.Frag} {H : Hp} {a : Addr} {l m : List V} (h1 : H a = some (.tup l)) (h2 : H a = some (.tup m)) : l = m := by
  rw [h1] at h2
  cases h2
  rfl
theorem nat_inj : ∀ {s t : List Nat}, s.map natV = t.map natV → s = t
  | [], [], _ => rfl
  | [], _ :: _, h => by simp at h
  | _ :: _, [], h => by simp at h
  | a :: s, b :: t, h => by
    simp only [List.map_cons, List.cons.injEq] at h
    obtain ⟨e, h⟩ := h
    injection e with e
    rw [Int.ofNat.inj e, nat_inj h]
theorem FmAt.one {K : PySem.W.Frag} {c : Cs} {H : Hp} {f g : Fm} {v : V} {l l' : List V} (hf : Okf f) (hg : Okf g) (h1 : FmAt K c H f v l) (h2 : FmAt K c H g v l') : rank f = rank g := by
  obtain ⟨a, dx, fs, g1, p, r, rfl, _, e1, b1⟩ := h1.obj
  obtain ⟨a', dx', fs', g', p', r', ea, _, e2, b2⟩ := h2.obj
  injection ea with ea
  subst ea
  have e := Option.some.inj (e1.symm.trans e2)
  injection e with _ _ e
  subst e
  have e := Option.some.inj (b1.nm.symm.trans b2.nm)
  injection e with e
  exact rank_of hf hg e
theorem ins_inj {H : Hp} {a C C' dx dx' : Addr} {fs fs' : List (Str × V)} (h1 : H a = some (.ins C dx fs)) (h2 : H a = some (.ins C' dx' fs')) : fs = fs' := by
  have e := Option.some.inj (h1.symm.trans h2)
  injection e
theorem FmAt.det {K : PySem.W.Frag} {c : Cs} {H : Hp} (inj : ∀ (a : Addr) (xs ys : List V), SqT K H a xs → SqT K H a ys → xs = ys) : ∀ {f g : Fm} {v : V} {l l' : List V}, Okf f → Okf g → FmAt K c H f v l → FmAt K c H g v l' → f = g ∧ l = l'
  | .num n, g, v, l, l', hf, hg, h1, h2 => by
    have e := FmAt.one hf hg h1 h2
    cases g with
    | num m =>
      obtain ⟨rfl, _, a, dx, fs, g1, p, rfl, e1, _, _, _, x1⟩ := h1
      obtain ⟨rfl, _, a', dx', fs', g1', p', ea, e2, _, _, _, x2⟩ := h2
      injection ea with ea
      subst ea
      obtain rfl := ins_inj e1 e2
      have e := Option.some.inj (x1.symm.trans x2)
      injection e with e
      exact ⟨by rw [Int.ofNat.inj e], rfl⟩
    | ref w x => (simp [rank] at e) <;> omega
    | pair o a b => (simp [rank] at e) <;> omega
    | cho t s a b => simp [rank] at e
  | .ref w y, g, v, l, l', hf, hg, h1, h2 => by
    have e := FmAt.one hf hg h1 h2
    have hw : w < 3 := hf.1
    cases g with
    | num m => (simp [rank] at e) <;> omega
    | ref w' x =>
      obtain ⟨rfl, a, dx, fs, g1, p, rfl, e1, _, _, _, _, x1⟩ := h1
      obtain ⟨rfl, a', dx', fs', g1', p', ea, e2, _, _, _, _, x2⟩ := h2
      injection ea with ea
      subst ea
      obtain rfl := ins_inj e1 e2
      have ex := Option.some.inj (x1.symm.trans x2)
      injection ex with ex
      have ew : w = w' := by simp [rank] at e; omega
      exact ⟨by rw [ex, ew], rfl⟩
    | pair o a b => (simp [rank] at e) <;> omega
    | cho t s a b => (simp [rank] at e) <;> omega
  | .pair o f1 f2, g, v, l, l', hf, hg, h1, h2 => by
    have e := FmAt.one hf hg h1 h2
    obtain ⟨ho, hf1, hf2⟩ := hf
    cases g with
    | num m => (simp [rank] at e) <;> omega
    | ref w' x =>
      have := hg.1
      (simp [rank] at e) <;> omega
    | pair o' g1 g2 =>
      obtain ⟨ho', hg1, hg2⟩ := hg
      obtain ⟨v1, l1, v2, l2, rfl, t1, t2, a, dx, fs, _, p, rfl, e1, _, _, _, x1, y1⟩ := h1
      obtain ⟨v1', l1', v2', l2', rfl, t1', t2', a', dx', fs', _, p', ea, e2, _, _, _, x2, y2⟩ := h2
      injection ea with ea
      subst ea
      obtain rfl := ins_inj e1 e2
      obtain rfl := Option.some.inj (x1.symm.trans x2)
      obtain rfl := Option.some.inj (y1.symm.trans y2)
      obtain ⟨rfl, rfl⟩ := FmAt.det inj hf1 hg1 t1 t1'
      obtain ⟨rfl, rfl⟩ := FmAt.det inj hf2 hg2 t2 t2'
      have ew : o = o' := by simp [rank] at e; omega
      exact ⟨by rw [ew], rfl⟩
    | cho t s a b => (simp [rank] at e) <;> omega
  | .cho f1 s f2 f3, g, v, l, l', hf, hg, h1, h2 => by
    have e := FmAt.one hf hg h1 h2
    obtain ⟨_, hf1, hf2, hf3⟩ := hf
    cases g with
    | num m => simp [rank] at e
    | ref w' x =>
      have := hg.1
      (simp [rank] at e) <;> omega
    | pair o' g1 g2 =>
      have := hg.1
      (simp [rank] at e) <;> omega
    | cho g1 s' g2 g3 =>
      obtain ⟨_, hg1, hg2, hg3⟩ := hg
      obtain ⟨v1, l1, v2, l2, v3, l3, rfl, t1, t2, t3, a, dx, fs, _, p, t, rfl, e1, _, _, _, s1, x1, y1, z1, w1⟩ := h1
      obtain ⟨v1', l1', v2', l2', v3', l3', rfl, t1', t2', t3', a', dx', fs', _, p', t', ea, e2, _, _, _, s2, x2, y2, z2, w2⟩ := h2
      injection ea with ea
      subst ea
      obtain rfl := ins_inj e1 e2
      obtain rfl := Option.some.inj (x1.symm.trans x2)
      have et := Option.some.inj (y1.symm.trans y2)
      injection et with et
      subst et
      obtain rfl := Option.some.inj (z1.symm.trans z2)
      obtain rfl := Option.some.inj (w1.symm.trans w2)
      obtain ⟨rfl, rfl⟩ := FmAt.det inj hf1 hg1 t1 t1'
      obtain ⟨rfl, rfl⟩ := FmAt.det inj hf2 hg2 t2 t2'
      obtain ⟨rfl, rfl⟩ := FmAt.det inj hf3 hg3 t3 t3'
      have es : s.map natV = s'.map natV := inj _ _ _ s1 s2
      have es : s = s' := nat_inj es
      exact ⟨by rw [es], rfl⟩
end K12

namespace K12
open PySem PySem.Spec PyProof.Rows L2
local macro_rules | `(tactic| walk_at "rd1") => `(tactic| first
  | (with_reducible refine Rd.seq ?_) | (with_reducible refine Rd.asg ?_) | (with_reducible refine Rd.ret ?_) | (with_reducible refine Rd.nxt ?_) | (with_reducible refine Rd.ifS ?_)
  | (with_reducible refine Rd.op ?_) | (with_reducible refine Rd.un ?_) | (with_reducible refine Rd.cb ?_) | (with_reducible refine Rd.cons ?_) | (with_reducible refine Rd.nil ?_) | (with_reducible refine Rd.ifx ?_)
  | (with_reducible refine Rd.test ?_) | (with_reducible refine Rd.testB ?_) | (with_reducible refine Rd.notT ?_) | (with_reducible refine Rd.isB ?_) | (with_reducible refine Rd.lst ?_) | (with_reducible refine Rd.tup ?_)
  | (with_reducible refine Rd.andV ?_) | (with_reducible refine Rd.orV ?_) | (with_reducible refine Rd.notV ?_) | (with_reducible refine Rd.andT ?_) | (with_reducible refine Rd.orT ?_) | (with_reducible refine Rd.chain ?_)
  | (with_reducible refine Rd.m0 ?_) | (with_reducible refine Rd.m1 ?_) | (with_reducible refine Rd.bm0 ?_) | (with_reducible refine Rd.bm ?_) | (with_reducible refine Rd.sl ?_) | (with_reducible refine Rd.part ?_) | (with_reducible refine Rd.part0 ?_) | (with_reducible refine Rd.isI ?_)
  | (with_reducible refine Rd.fmt ?_) | (with_reducible refine Rd.fmtRD ?_) | (with_reducible refine Rd.meth ?_) | (with_reducible refine makeG ?_) | (with_reducible refine Rd.prop ?_) | (with_reducible refine Rd.js ?_) | (with_reducible refine Rd.js0 ?_) | (with_reducible refine Rd.par ?_) | (with_reducible refine Rd.star ?_) | (with_reducible refine lcR1 ?_) | (with_reducible refine lcR2 ?_) | (with_reducible refine Rd.fld ?_) | (with_reducible refine Rd.sfld ?_) | (with_reducible refine Rd.expr ?_) | (with_reducible refine L2.isNR ?_) | (with_reducible refine L2.methI ?_) | (with_reducible refine Rd.forZ ?_)
  | (with_reducible refine Rd.forEA ?_) | (with_reducible refine Rd.forR1 ?_) | (with_reducible refine Rd.forR2 ?_) | (with_reducible refine Rd.forL ?_) | (with_reducible refine Rd.forT ?_)
  | (with_reducible refine Rd.call ?_) | (with_reducible refine Rd.asgG ?_) | (with_reducible refine Rd.gNm ?_) | (with_reducible refine Rd.gSb ?_) | (with_reducible refine Rd.gC ?_) | (with_reducible refine Rd.gN ?_)
  | ((with_reducible refine' Rd.var ?hv ?_); (case hv => exact rfl)) | (with_reducible refine Rd.c ?_) | (with_reducible refine Rd.i0 ?_) | (with_reducible refine Rd.neg ?_)
  | ((with_reducible refine' Rd.iC ?hc ?_); (case hc => first | (show (0 : Int) < _; decide) | exact ⟨by decide, by decide⟩ | exact ⟨by decide, by decide, by decide⟩ | exact .inl ⟨by decide, by decide⟩ | exact .inr ⟨by decide, by decide⟩ | exact .inl ⟨by omega, by omega⟩ | (show (0 : Int) < _; omega) | exact ⟨by omega, by omega⟩))
  | ((with_reducible refine' Rd.eqS ?hc ?_); (case hc => rfl)) | ((with_reducible refine' Rd.neS ?hc ?_); (case hc => rfl)))
local macro_rules | `(tactic| walk_at "rd") => `(tactic| repeat walk_at "rd1")
abbrev sEqF : Stmt := sMeth iFormula 12
def spEqF (K : PySem.W.Frag) (c : Cs) (CF : Addr) (n : Nat) : Sp := fun vs H Q _ => ∃ (f1 : Fm) (v1 y : V) (l1 : List V), vs = [v1, y] ∧ FmAt K c H f1 v1 l1 ∧ Okf f1 ∧ f1.ht ≤ n ∧
  ((∃ (f2 : Fm) (l2 : List V), FmAt K c H f2 y l2 ∧ Okf f2 ∧ ∀ H', Ext H H' → Q (.bl (decide (f1 = f2))) H') ∨ (∃ t, TyX K H y t ∧ PySem.W.kitOne K t (.ref CF) = some false ∧ Q (.bl false) H))
/-- == of formulas is the class Formula's -/
structure Eqc (K : PySem.W.Frag) (c : Cs) (f : Addr) : Prop where
  eq : ∀ g, OwnM K (clsOf c g) "__eq__" f
  nf : ∀ g g', Okf g → Okf g' → PySem.W.notFirst K (clsOf c g) (.ref (clsOf c g')) = true
def DFm (K : PySem.W.Frag) (c : Cs) (n : Nat) : Eqw := fun x y k H => ∃ (f1 f2 : Fm) (l1 l2 : List V), FmAt K c H f1 x l1 ∧ FmAt K c H f2 y l2 ∧ Okf f1 ∧ Okf f2 ∧ f1.ht ≤ n ∧ k = decide (f1 = f2)
theorem ext_kp {H H' : Hp} (e : Ext H H') : Kp H H' := fun b o h _ => e b o h
theorem monw_fm {K : PySem.W.Frag} {c : Cs} {n : Nat} : Monw (DFm K c n) := fun x y k H H' e d => by
  obtain ⟨f1, f2, l1, l2, h1, h2, o1, o2, ht, hk⟩ := d
  exact ⟨f1, f2, l1, l2, h1.kp (ext_kp e), h2.kp (ext_kp e), o1, o2, ht, hk⟩
theorem fm_ty {K : PySem.W.Frag} {mg : Str → Option Value} {c : Cs} {CF : Addr} {H : Hp} {f : Fm} {v : V} {l : List V} (T : Cl K c) (B : Fb K mg c CF) (h : FmAt K c H f v l) : TyX K H v (.ref (clsOf c f)) := by
  obtain ⟨a, dx, fs, g, p, r, rfl, rfl, ha, _⟩ := h.obj
  exact .base (.ins ha (T.at_ f).cl (B.hcl f) B.hgt B.htk (B.hmo f))
section
variable {X : Cx} {c : Cs} {CF f : Addr} {fd : FuncData} {n m : Nat}
theorem rcW_fm (T : Cl X.K c) (B : Fb X.K X.mg c CF) (q : Eqc X.K c f) (F : FnG X.prog X.w X.K X.mg X.base CX0 m f fd ["self", "other"] (spEqF X.K c CF n)) (hb : Binds X.K fd ["self", "other"] []) : RcW X m (DFm X.K c n) := by
  intro A pins s σ H x y k u v g sb I rx ry d
  obtain ⟨f1, f2, l1, l2, h1, h2, o1, o2, ht, rfl⟩ := d
  have ty := fm_ty T B h2
  obtain ⟨a, dx, fs, g1, p, r, rfl, _, ha, _⟩ := id h1.obj
  exact rcW_ins (E := E0) F hb pass0 A pins s σ H _ y _ u v g sb I rx ry ⟨a, _, dx, fs, _, rfl, ha, q.eq f1, ty, q.nf f1 f2 o1 o2, fun Q E z => ⟨f1, _, y, l1, rfl, h1, o1, ht, .inl ⟨f2, l2, h2, o2, z⟩⟩⟩
theorem eqW_fm (T : Cl X.K c) (B : Fb X.K X.mg c CF) (q : Eqc X.K c f) (F : FnG X.prog X.w X.K X.mg X.base CX0 m f fd ["self", "other"] (spEqF X.K c CF n)) (hb : Binds X.K fd ["self", "other"] []) : EqW X m (DFm X.K c n) :=
  (rcW_fm T B q F hb).eqW fun pins s σ x y k H I d => by
    obtain ⟨f1, f2, l1, l2, h1, h2, o1, o2, ht, rfl⟩ := d
    obtain ⟨a, _, _, _, _, _, rfl, _⟩ := id h1.obj
    obtain ⟨b, _, _, _, _, _, rfl, _⟩ := id h2.obj
    refine ⟨a, b, rfl, rfl, fun e => ?_⟩
    subst e
    exact decide_eq_true (FmAt.det (fun a xs ys => I.tuple_inj) o1 o2 h1 h2).1
/-- what stands among the given values -/
def DGv (K : PySem.W.Frag) (c : Cs) (n : Nat) : Eqw := fun x y k H => DFlatW x y k H ∨ (DTupW K DFlatW x y k H ∨ DFm K c n x y k H)
theorem monw_gv {K : PySem.W.Frag} : Monw (DGv K c n) := monw_flat.or ((monw_tup monw_flat).or monw_fm)
theorem eqV_same {x : V} (h : flatV x = true) : eqV x x = true := by
  cases x <;> first | rfl | (exact nomatch (show (false = true) from h)) | (simp [eqV]; done)
theorem eqW_gv (T : Cl X.K c) (B : Fb X.K X.mg c CF) (q : Eqc X.K c f) (F : FnG X.prog X.w X.K X.mg X.base CX0 m f fd ["self", "other"] (spEqF X.K c CF n)) (hb : Binds X.K fd ["self", "other"] []) (hm : 1 ≤ m) : EqW X m (DGv X.K c n) := by
  refine (eqW_flat.mono (Nat.zero_le m)).or (EqW.or (EqW.mono (RcW.eqW (rcW_tup monw_flat eqW_flat) fun pins s σ x y k H I d => ?_) hm) (eqW_fm T B q F hb))
  obtain ⟨a, b, xs, ys, rfl, rfl, ha, hb, ks, lk, rfl, at_⟩ := d
  refine ⟨a, b, rfl, rfl, fun e => ?_⟩
  subst e
  obtain rfl := I.tuple_inj ha hb
  rw [decide_eq_true rfl, Bool.and_true, List.all_eq_true]
  intro z hz
  obtain ⟨i, hi⟩ := List.mem_iff_getElem?.mp hz
  have hl : i < xs.length := by
    have := (List.getElem?_eq_some_iff.mp hi).1
    omega
  obtain ⟨f1, f2, e⟩ := at_ i _ _ _ (List.getElem?_eq_getElem hl) (List.getElem?_eq_getElem hl) hi
  rw [eqV_same f1] at e
  rw [← e]
  rfl
theorem prw1 {D : Eqw} {x y : V} {k : Bool} {H : Hp} (h : D x y k H) : Prw D [x] [y] k H := ⟨[k], rfl, by simp, fun i a b c h1 h2 h3 => by
  match i, h1, h2, h3 with
  | 0, h1, h2, h3 => cases h1; cases h2; cases h3; exact h⟩
theorem prw2 {D : Eqw} {x y x2 y2 : V} {k k2 : Bool} {H : Hp} (h : D x y k H) (h' : D x2 y2 k2 H) : Prw D [x, x2] [y, y2] (k && k2) H := ⟨[k, k2], rfl, by simp, fun i a b c h1 h2 h3 => by
  match i, h1, h2, h3 with
  | 0, h1, h2, h3 => cases h1; cases h2; cases h3; exact h
  | 1, h1, h2, h3 => cases h1; cases h2; cases h3; exact h'⟩
theorem prw4 {D : Eqw} {x y x2 y2 x3 y3 x4 y4 : V} {k k2 k3 k4 : Bool} {H : Hp} (h : D x y k H) (h' : D x2 y2 k2 H) (h3 : D x3 y3 k3 H) (h4 : D x4 y4 k4 H) : Prw D [x, x2, x3, x4] [y, y2, y3, y4] (k && (k2 && (k3 && k4))) H := ⟨[k, k2, k3, k4], rfl, by simp, fun i a b c g1 g2 g3 => by
  match i, g1, g2, g3 with
  | 0, g1, g2, g3 => cases g1; cases g2; cases g3; exact h
  | 1, g1, g2, g3 => cases g1; cases g2; cases g3; exact h'
  | 2, g1, g2, g3 => cases g1; cases g2; cases g3; exact h3
  | 3, g1, g2, g3 => cases g1; cases g2; cases g3; exact h4⟩
end
theorem prwN {K : PySem.W.Frag} {H : Hp} {t t' : Addr} : ∀ {s s' : List Nat}, Prw DFlatW (s.map natV) (s'.map natV) (decide (s = s')) H := fun {s s'} => by
  refine ⟨List.zipWith (fun a b => decide (a = b)) s s', by simp, ?_, fun i x y k h1 h2 h3 => ?_⟩
  · rw [List.length_map, List.length_map]
    induction s generalizing s' with
    | nil => cases s' <;> simp
    | cons a s ih =>
      cases s' with
      | nil => simp
      | cons b s' =>
        have e := ih (s' := s')
        simp only [List.zipWith_cons_cons, List.all_cons, id, List.length_cons, List.cons.injEq, Nat.add_right_cancel_iff, Bool.decide_and, Bool.and_assoc]
        rw [e]
  · rw [List.getElem?_map] at h1 h2
    rw [List.getElem?_zipWith] at h3
    cases e1 : s[i]? with
    | none => rw [e1] at h1; cases h1
    | some a =>
      cases e2 : s'[i]? with
      | none => rw [e2] at h2; cases h2
      | some b =>
        rw [e1] at h1 h3
        rw [e2] at h2 h3
        cases h1
        cases h2
        cases h3
        refine ⟨rfl, rfl, ?_⟩
        show ((a : Int) == (b : Int)) = decide (a = b)
        by_cases e : a = b
        · subst e; simp
        · rw [decide_eq_false e]; exact beq_eq_false_iff_ne.mpr fun z => e (Int.ofNat.inj z)
theorem gv_eq {K : PySem.W.Frag} {c : Cs} {n : Nat} {H : Hp} {f f' : Fm} {a a' g g' C C' dx dx' : Addr} {fs fs' : List (Str × V)} {l l' : List V} (hf : FmAt K c H f (.ref a) l) (hf' : FmAt K c H f' (.ref a') l') (og : Okf f) (og' : Okf f') (nm : nameOf f = nameOf f') (ht : f.ht ≤ n + 1)
    (ha : H a = some (.ins C dx fs)) (ha' : H a' = some (.ins C' dx' fs')) (gv : fs.lookup ("_given" : Str) = some (.ref g)) (gv' : fs'.lookup ("_given" : Str) = some (.ref g')) : DTupW K (DGv K c n) (.ref g) (.ref g') (decide (f = f')) H := by
  have rk := rank_of og og' nm
  cases f with
  | num m =>
    cases f' with
    | num m' =>
      obtain ⟨_, _, b, _, fs1, g1, p, eb, e1, b1, s1, _⟩ := hf
      obtain ⟨_, _, b', _, fs1', g1', p', eb', e1', b1', s1', _⟩ := hf'
      injection eb with eb
      injection eb' with eb'
      subst eb eb'
      obtain rfl := ins_inj ha e1
      obtain rfl := ins_inj ha' e1'
      have x := Option.some.inj (gv.symm.trans b1.gv)
      have x' := Option.some.inj (gv'.symm.trans b1'.gv)
      injection x with x
      injection x' with x'
      subst x x'
      refine ⟨g, g', _, _, rfl, rfl, s1, s1', prw1 (.inl ⟨rfl, rfl, ?_⟩)⟩
      show ((m : Int) == (m' : Int)) = decide (Fm.num m = Fm.num m')
      by_cases e : m = m'
      · subst e; simp
      · rw [decide_eq_false (fun z => e (by injection z))]; exact beq_eq_false_iff_ne.mpr fun z => e (Int.ofNat.inj z)
    | ref w x => (simp [rank] at rk) <;> omega
    | pair o a b => (simp [rank] at rk) <;> omega
    | cho t s a b => (simp [rank] at rk) <;> omega
  | ref w x =>
    cases f' with
    | ref w' x' =>
      have ew : w = w' := by simp [rank] at rk; omega
      subst ew
      obtain ⟨_, b, _, fs1, g1, p, eb, e1, b1, s1, _⟩ := hf
      obtain ⟨_, b', _, fs1', g1', p', eb', e1', b1', s1', _⟩ := hf'
      injection eb with eb
      injection eb' with eb'
      subst eb eb'
      obtain rfl := ins_inj ha e1
      obtain rfl := ins_inj ha' e1'
      have z := Option.some.inj (gv.symm.trans b1.gv)
      have z' := Option.some.inj (gv'.symm.trans b1'.gv)
      injection z with z
      injection z' with z'
      subst z z'
      refine ⟨g, g', _, _, rfl, rfl, s1, s1', prw1 (.inl ⟨rfl, rfl, ?_⟩)⟩
      show (x == x') = decide (Fm.ref w x = Fm.ref w x')
      by_cases e : x = x'
      · subst e; simp
      · rw [decide_eq_false (fun z => e (by injection z))]; simpa using e
    | num m => (simp [rank] at rk) <;> omega
    | pair o a b => have := og.1; (simp [rank] at rk) <;> omega
    | cho t s a b => have := og.1; (simp [rank] at rk) <;> omega
  | pair o f1 f2 =>
    cases f' with
    | pair o' f1' f2' =>
      have ew : o = o' := by simp [rank] at rk; omega
      subst ew
      have hm : max f1.ht f2.ht + 1 ≤ n + 1 := ht
      obtain ⟨v1, l1, v2, l2, _, t1, t2, b, _, fs1, g1, p, eb, e1, b1, s1, _⟩ := hf
      obtain ⟨v1', l1', v2', l2', _, t1', t2', b', _, fs1', g1', p', eb', e1', b1', s1', _⟩ := hf'
      injection eb with eb
      injection eb' with eb'
      subst eb eb'
      obtain rfl := ins_inj ha e1
      obtain rfl := ins_inj ha' e1'
      have z := Option.some.inj (gv.symm.trans b1.gv)
      have z' := Option.some.inj (gv'.symm.trans b1'.gv)
      injection z with z
      injection z' with z'
      subst z z'
      have pk := prw2 (D := DGv K c n) (H := H) (.inr (.inr ⟨f1, f1', l1, l1', t1, t1', og.2.1, og'.2.1, by omega, rfl⟩)) (.inr (.inr ⟨f2, f2', l2, l2', t2, t2', og.2.2, og'.2.2, by omega, rfl⟩))
      have e : decide (Fm.pair o f1 f2 = Fm.pair o f1' f2') = (decide (f1 = f1') && decide (f2 = f2')) := by rw [← Bool.decide_and]; simp
      rw [e]
      exact ⟨g, g', _, _, rfl, rfl, s1, s1', pk⟩
    | num m => (simp [rank] at rk) <;> omega
    | ref w x => have := og'.1; (simp [rank] at rk) <;> omega
    | cho t s a b => have := og.1; (simp [rank] at rk) <;> omega
  | cho f1 s f2 f3 =>
    cases f' with
    | cho f1' s' f2' f3' =>
      have hm : max f1.ht (max f2.ht f3.ht) + 1 ≤ n + 1 := ht
      obtain ⟨v1, l1, v2, l2, v3, l3, _, t1, t2, t3, b, _, fs1, g1, p, t, eb, e1, b1, s1, _, st, _⟩ := hf
      obtain ⟨v1', l1', v2', l2', v3', l3', _, t1', t2', t3', b', _, fs1', g1', p', t', eb', e1', b1', s1', _, st', _⟩ := hf'
      injection eb with eb
      injection eb' with eb'
      subst eb eb'
      obtain rfl := ins_inj ha e1
      obtain rfl := ins_inj ha' e1'
      have z := Option.some.inj (gv.symm.trans b1.gv)
      have z' := Option.some.inj (gv'.symm.trans b1'.gv)
      injection z with z
      injection z' with z'
      subst z z'
      have pk := prw4 (D := DGv K c n) (H := H) (.inr (.inr ⟨f1, f1', l1, l1', t1, t1', og.2.1, og'.2.1, by omega, rfl⟩)) (.inr (.inl ⟨t, t', _, _, rfl, rfl, st, st', prwN (K := K) (t := t) (t' := t')⟩)) (.inr (.inr ⟨f2, f2', l2, l2', t2, t2', og.2.2.1, og'.2.2.1, by omega, rfl⟩)) (.inr (.inr ⟨f3, f3', l3, l3', t3, t3', og.2.2.2, og'.2.2.2, by omega, rfl⟩))
      have e : decide (Fm.cho f1 s f2 f3 = Fm.cho f1' s' f2' f3') = (decide (f1 = f1') && (decide (s = s') && (decide (f2 = f2') && decide (f3 = f3')))) := by
        rw [← Bool.decide_and, ← Bool.decide_and, ← Bool.decide_and]; simp
      rw [e]
      exact ⟨g, g', _, _, rfl, rfl, s1, s1', pk⟩
    | num m => (simp [rank] at rk) <;> omega
    | ref w x => have := og'.1; (simp [rank] at rk) <;> omega
    | pair o a b => have := og'.1; (simp [rank] at rk) <;> omega
section
variable {P : Program} {w : World} {K : PySem.W.Frag} {mg : Str → Option Value} {base : Heap} {c : Cs} {CF f : Addr} {fd : FuncData}
theorem scEqF : FnScope ["self", "other"] ["self", "other"] (defScope sEqF) := ⟨rfl, rfl, rfl, by decide +kernel, rfl, by decide +kernel, by decide +kernel⟩
theorem ok_eqF (F : FunD K "__eq__" "Formula.__eq__" (defArgs sEqF) (defBody sEqF) (defScope sEqF) [] [] f fd) (T : Cl K c) (B : Fb K mg c CF) (q0 : Eqc K c f) (gIs : mg "isinstance" = none) : ∀ n, FnG P w K mg base CX0 (n * 3 + 3) f fd ["self", "other"] (spEqF K c CF n) := by
  have bE : Binds K fd ["self", "other"] [] := F.bindsN fun _ _ _ _ _ _ us hl => match us, hl with | [_, _], _ => rfl
  intro n
  induction n with
  | zero =>
    refine F.okG scEqF (fun vs H Q E h => ?_) (fun cdv A outer s H vs Q E hgu hr h => ?_)
    · obtain ⟨g, v, y, l, rfl, _⟩ := h
      rfl
    · obtain ⟨g, v, y, l, rfl, _, _, ht, _⟩ := h
      cases g <;> simp [Fm.ht] at ht
  | succ n ih =>
    have e3 : (n + 1) * 3 + 3 = (n * 3 + 5) + 1 := by omega
    rw [e3]
    refine F.okG scEqF (fun vs H Q E h => ?_) (fun cdv A outer s H vs Q E hgu hr h => ?_)
    · obtain ⟨g, v, y, l, rfl, _⟩ := h
      rfl
    · obtain ⟨g, v, y, l, rfl, hf, og, ht, q⟩ := h
      refine ⟨_, PSs.nox (pss_one (ps_ret (pe_and (pe_callB call_isi rfl gIs (by decide +kernel) (pa_cons (pv 1) (pa_cons (pe_glob rfl B.gF (v := .ref CF) rfl) pa_nil)))
        (pe_and (pe_cmpR op_eq (pe_fld (pv 0) rfl) (pe_fld (pv 1) rfl) (nomark _)) (pe_one (pe_cmpR (op_eqW (rcW_tup monw_gv (eqW_gv T B q0 ih bE (show 1 ≤ n * 3 + 3 by omega))) (hr.mono (show n * 3 + 3 + 1 ≤ n * 3 + 5 by omega)) hgu) (pe_fld (pv 0) rfl) (pe_fld (pv 1) rfl) (nomark _))))))), ?_⟩
      obtain ⟨a, dx, fs, g1, p, r, rfl, _, ha, b1⟩ := id hf.obj
      rcases q with ⟨g', l', hf', og', q⟩ | ⟨t, ty, k0, q⟩
      · obtain ⟨a', dx', fs', g1', p', r', rfl, _, ha', b1'⟩ := id hf'.obj
        walk_at "rd"
        refine ⟨.ref a', .ref CF, .ref (clsOf c g'), .ref CF, true, rfl, .own CF, fm_ty T B hf', B.kit g', ?_⟩
        refine Rd.isT rfl ?_
        walk_at "rd"
        refine ⟨a, _, dx, fs, _, rfl, ha, (T.at_ g).cl, (T.at_ g).no "_called", b1.nm, ?_⟩
        walk_at "rd"
        refine ⟨a', _, dx', fs', _, rfl, ha', (T.at_ g').cl, (T.at_ g').no "_called", b1'.nm, ?_⟩
        walk_at "rd"
        refine Rd.ifB (fun z => ?_) (fun z => ?_)
        · have nm : nameOf g = nameOf g' := by
            have e := of_decide_eq_true z
            injection e
          walk_at "rd"
          refine ⟨a, _, dx, fs, _, rfl, ha, (T.at_ g).cl, (T.at_ g).no "_given", b1.gv, ?_⟩
          walk_at "rd"
          refine ⟨a', _, dx', fs', _, rfl, ha', (T.at_ g').cl, (T.at_ g').no "_given", b1'.gv, ?_⟩
          walk_at "rd"
          refine ⟨_, gv_eq (n := n) hf hf' og og' nm ht ha ha' b1.gv b1'.gv, fun H' e => ?_⟩
          exact q H' e
        · have nm : ¬ g = g' := fun e => by
            have e2 := of_decide_eq_false z
            exact e2 (by rw [e])
          rw [decide_eq_false nm] at q
          exact q _ Ext.rfl'
      · walk_at "rd"
        refine ⟨y, .ref CF, t, .ref CF, false, rfl, .own CF, ty, k0, ?_⟩
        refine Rd.isF rfl ?_
        exact q
end
end K12

namespace K12
open PySem PySem.Spec PyProof.Rows L2
local macro_rules | `(tactic| walk_at "rd1") => `(tactic| first
  | (with_reducible refine Rd.seq ?_) | (with_reducible refine Rd.asg ?_) | (with_reducible refine Rd.ret ?_) | (with_reducible refine Rd.nxt ?_) | (with_reducible refine Rd.ifS ?_)
  | (with_reducible refine Rd.op ?_) | (with_reducible refine Rd.un ?_) | (with_reducible refine Rd.cb ?_) | (with_reducible refine Rd.cons ?_) | (with_reducible refine Rd.nil ?_) | (with_reducible refine Rd.ifx ?_)
  | (with_reducible refine Rd.test ?_) | (with_reducible refine Rd.testB ?_) | (with_reducible refine Rd.notT ?_) | (with_reducible refine Rd.isB ?_) | (with_reducible refine Rd.lst ?_) | (with_reducible refine Rd.tup ?_)
  | (with_reducible refine Rd.andV ?_) | (with_reducible refine Rd.orV ?_) | (with_reducible refine Rd.notV ?_) | (with_reducible refine Rd.andT ?_) | (with_reducible refine Rd.orT ?_) | (with_reducible refine Rd.chain ?_)
  | (with_reducible refine Rd.m0 ?_) | (with_reducible refine Rd.m1 ?_) | (with_reducible refine Rd.bm0 ?_) | (with_reducible refine Rd.bm ?_) | (with_reducible refine Rd.sl ?_) | (with_reducible refine Rd.part ?_) | (with_reducible refine Rd.part0 ?_) | (with_reducible refine Rd.isI ?_)
  | (with_reducible refine Rd.fmt ?_) | (with_reducible refine Rd.fmtRD ?_) | (with_reducible refine Rd.meth ?_) | (with_reducible refine makeG ?_) | (with_reducible refine Rd.prop ?_) | (with_reducible refine Rd.js ?_) | (with_reducible refine Rd.js0 ?_) | (with_reducible refine Rd.par ?_) | (with_reducible refine Rd.star ?_) | (with_reducible refine lcR1 ?_) | (with_reducible refine lcR2 ?_) | (with_reducible refine Rd.fld ?_) | (with_reducible refine Rd.sfld ?_) | (with_reducible refine Rd.expr ?_) | (with_reducible refine L2.isNR ?_) | (with_reducible refine L2.methI ?_) | (with_reducible refine Rd.forZ ?_)
  | (with_reducible refine Rd.forEA ?_) | (with_reducible refine Rd.forR1 ?_) | (with_reducible refine Rd.forR2 ?_) | (with_reducible refine Rd.forL ?_) | (with_reducible refine Rd.forT ?_)
  | (with_reducible refine Rd.call ?_) | (with_reducible refine Rd.asgG ?_) | (with_reducible refine Rd.gNm ?_) | (with_reducible refine Rd.gSb ?_) | (with_reducible refine Rd.gC ?_) | (with_reducible refine Rd.gN ?_)
  | ((with_reducible refine' Rd.var ?hv ?_); (case hv => exact rfl)) | (with_reducible refine Rd.c ?_) | (with_reducible refine Rd.i0 ?_) | (with_reducible refine Rd.neg ?_)
  | ((with_reducible refine' Rd.iC ?hc ?_); (case hc => first | (show (0 : Int) < _; decide) | exact ⟨by decide, by decide⟩ | exact ⟨by decide, by decide, by decide⟩ | exact .inl ⟨by decide, by decide⟩ | exact .inr ⟨by decide, by decide⟩ | exact .inl ⟨by omega, by omega⟩ | (show (0 : Int) < _; omega) | exact ⟨by omega, by omega⟩))
  | ((with_reducible refine' Rd.eqS ?hc ?_); (case hc => rfl)) | ((with_reducible refine' Rd.neS ?hc ?_); (case hc => rfl)))
local macro_rules | `(tactic| walk_at "rd") => `(tactic| repeat walk_at "rd1")
theorem name_len {f : Fm} (h : Okf f) : (nameOf f).length ≤ 6 := by
  obtain ⟨a, b⟩ := rank_lt h
  rw [b]
  exact (show ∀ i, i < 9 → (rankN i).length ≤ 6 by decide +kernel) _ a
theorem sum1 (x : Str) : (([x] : List Str).map (·.length)).sum + ([x] : List Str).length * 2 = x.length + 2 := by simp
theorem sum2 (x y : Str) : (([x, y] : List Str).map (·.length)).sum + ([x, y] : List Str).length * 2 = x.length + y.length + 4 := by simp <;> omega
theorem sum4 (x y z u : Str) : (([x, y, z, u] : List Str).map (·.length)).sum + ([x, y, z, u] : List Str).length * 2 = x.length + y.length + z.length + u.length + 8 := by simp <;> omega
theorem repr_len : ∀ {f : Fm}, Okf f → (reprOf f).length ≤ 90 * f.q.1
  | .num n, h => by
    have a := wrap_len (x := "Number") (l := [(PyData.int (n : Nat)).shown]) (B := 10) (name_len (f := .num n) h) (by
      have hn : n ≤ 8 := h
      have e := num_len n (by omega)
      rw [sum1]
      omega)
    exact Nat.le_trans a (show 18 ≤ 90 * 1 by omega)
  | .ref w x, h => by
    have a := wrap_len (x := refName w) (l := [(PyData.str x).shown]) (B := 30) (name_len (f := .ref w x) h) (by
      have := h.2.rep
      rw [sum1]; omega)
    exact Nat.le_trans a (show 38 ≤ 90 * 1 by omega)
  | .pair o l r, h => by
    have h1 := repr_len h.2.1
    have h2 := repr_len h.2.2
    have a := wrap_len (x := pairName o) (l := [reprOf l, reprOf r]) (B := 90 * l.q.1 + 90 * r.q.1 + 4) (name_len (f := .pair o l r) h) (by rw [sum2]; omega)
    rw [q_pair]
    exact Nat.le_trans a (by omega)
  | .cho t s p b, h => by
    have h1 := repr_len h.2.1
    have h2 := repr_len h.2.2.1
    have h3 := repr_len h.2.2.2
    have h4 := h.1.shown
    have a := wrap_len (x := "Choice") (l := [reprOf t, (numsD s).shown, reprOf p, reprOf b]) (B := 90 * t.q.1 + 60 + 90 * p.q.1 + 90 * b.q.1 + 8) (name_len (f := .cho t s p b) h) (by rw [sum4]; omega)
    rw [q_cho]
    exact Nat.le_trans a (by omega)
abbrev sReprF : Stmt := sMeth iFormula 14
def spReprF (K : PySem.W.Frag) (c : Cs) (n : Nat) : Sp := fun vs H Q _ => ∃ (f : Fm) (v : V) (l : List V), vs = [v] ∧ FmAt K c H f v l ∧ Okf f ∧ f.ht ≤ n ∧ Fits f ∧ ∀ H', Same H H' → Q (.str (reprOf f)) H'
/-- what repr says of a value among the given ones -/
def Told (K : PySem.W.Frag) (c : Cs) (n : Nat) (H : Hp) (x : V) (y : Str) : Prop :=
  (∃ m : Nat, m < 9 ∧ x = .int (m : Nat) ∧ y = (PyData.int (m : Nat)).shown) ∨ (∃ z, x = .str z ∧ Nam z ∧ y = (PyData.str z).shown) ∨ (∃ a s, x = .ref a ∧ SqT K H a (s.map natV) ∧ Asc s ∧ y = (numsD s).shown) ∨
    ∃ f l, FmAt K c H f x l ∧ Okf f ∧ f.ht ≤ n ∧ Fits f ∧ y = reprOf f
def rTold (K : PySem.W.Frag) (c : Cs) (n : Nat) : List V → Hp → VK → Prop := fun xs H Q => ∃ x y, xs = [x] ∧ Told K c n H x y ∧ ∀ H', Same H H' → Q (.str y) H'
theorem dds_nums {K : PySem.W.Frag} {H : Hp} : ∀ s : List Nat, Dds K H (s.map natV) (s.map fun n => PyData.int (n : Nat))
  | [] => .nil
  | n :: s => .cons (.int _) (dds_nums s)
theorem depth_nums : ∀ s : List Nat, PyData.depthAll (s.map fun n => PyData.int (n : Nat)) = 0
  | [] => by simp only [List.map_nil, PyData.depthAll]
  | n :: s => by simp only [List.map_cons, PyData.depthAll, PyData.depth, depth_nums s, Nat.max_self]
theorem small_log : ∀ n, n < 9 → ((n : Nat) : Int).natAbs.log2 < 1920 := by decide +kernel
theorem showable_nums : ∀ s : List Nat, (∀ n ∈ s, n < 9) → PyData.showableAll (s.map fun n => PyData.int (n : Nat)) = true
  | [], _ => by simp only [List.map_nil, PyData.showableAll]
  | n :: s, h => by
    simp only [List.map_cons, PyData.showableAll, PyData.showable, showable_nums s fun m hm => h m (List.mem_cons_of_mem _ hm), Bool.and_true]
    exact decide_eq_true (small_log n (h n List.mem_cons_self))
theorem call_told {X : Cx} {c : Cs} {f : Addr} {fd : FuncData} {n m : Nat} (hgu : X.A.guards = some []) (hu : X.A.units + 64 < cLine) (sm : smOk X.K = true) (F : FnG X.prog X.w X.K X.mg X.base CX0 m f fd ["self"] (spReprF X.K c n)) (own : ∀ g, OwnM X.K (clsOf c g) "__repr__" f) (hb : Binds X.K fd ["self"] []) (hr : Room (m + 1) X.A) :
    CallR X (.builtin "repr") (rTold X.K c n) := by
  intro pins s σ H xs us Q I r h
  obtain ⟨x, y, rfl, t, q⟩ := h
  rcases t with ⟨k, hk, rfl, rfl⟩ | ⟨z, rfl, nz, rfl⟩ | ⟨a, sl, rfl, ha, asc, rfl⟩ | ⟨g, l, hg, og, ht, fit, rfl⟩
  · exact SkE.call_repr_int pins s σ H _ us Q I r ⟨_, rfl, small_log k hk, q H (Same.refl _)⟩
  · exact call_repr_str pins s σ H _ us Q I r ⟨z, rfl, Rd.small (by have := nz.rep; exact Nat.le_trans this (by decide)), q H (Same.refl _)⟩
  · refine call_reprD hgu hu sm pins s σ H _ us Q I r ⟨a, numsD sl, rfl, .tup ha (dds_nums sl), ?_, ?_, Rd.small (by have := asc.shown; omega), q H (Same.refl _)⟩
    · unfold numsD
      rw [PyData.showable, showable_nums sl asc.le8]
    · unfold numsD
      rw [PyData.depth, depth_nums]
      decide
  · obtain ⟨a, dx, fs, g1, p, r1, rfl, _, ha, _⟩ := id hg.obj
    exact call_reprI (E := E0) F (own g) hb pass0 hgu hr pins s σ H _ us Q I r ⟨a, dx, fs, rfl, ha, g, _, l, rfl, hg, og, ht, fit, fun H' e => ⟨_, rfl, q H' e⟩⟩
theorem Told.same {K : PySem.W.Frag} {c : Cs} {n : Nat} {H H' : Hp} {x : V} {y : Str} (h : Told K c n H x y) (s : Same H H') : Told K c n H' x y := by
  rcases h with h | h | ⟨a, sl, e, ha, asc, z⟩ | ⟨f, l, hf, o, ht, fit, z⟩
  · exact .inl h
  · exact .inr (.inl h)
  · exact .inr (.inr (.inl ⟨a, sl, e, ha.ext s, asc, z⟩))
  · exact .inr (.inr (.inr ⟨f, l, hf.kp (kp_same s), o, ht, fit, z⟩))
/-- the given values and what repr says of them -/
structure Gt (K : PySem.W.Frag) (c : Cs) (n : Nat) (H : Hp) (g : Addr) (f : Fm) (xs : List V) (T : List Str) : Prop where
  at_ : SqT K H g xs
  len : xs.length = T.length
  few : T.length ≤ 4
  small : ∀ y ∈ T, y.length ≤ 3600
  told : ∀ k x, xs[k]? = some x → Told K c n H x (T.getD k Str.empty)
  repr : reprOf f = wrap (nameOf f) T
theorem gv_told {K : PySem.W.Frag} {c : Cs} {n : Nat} {H : Hp} {f : Fm} {a g C dx : Addr} {fs : List (Str × V)} {l : List V} (hf : FmAt K c H f (.ref a) l) (og : Okf f) (ht : f.ht ≤ n + 1) (fit : Fits f)
    (ha : H a = some (.ins C dx fs)) (gv : fs.lookup ("_given" : Str) = some (.ref g)) : ∃ xs T, Gt K c n H g f xs T := by
  cases f with
  | num m =>
    obtain ⟨_, hm, b, _, fs1, g1, p, eb, e1, b1, s1, _⟩ := hf
    injection eb with eb
    subst eb
    obtain rfl := ins_inj ha e1
    have x := Option.some.inj (gv.symm.trans b1.gv)
    injection x with x
    subst x
    exact ⟨_, [(PyData.int (m : Nat)).shown], s1, rfl, (by show 1 ≤ 4; decide), (fun y hy => by rw [List.mem_singleton.mp hy, num_len m (by omega)]; decide), fun k x e => by
      match k, e with
      | 0, e => cases e; exact .inl ⟨m, by omega, rfl, rfl⟩, rfl⟩
  | ref w x =>
    obtain ⟨_, b, _, fs1, g1, p, eb, e1, b1, s1, _⟩ := hf
    injection eb with eb
    subst eb
    obtain rfl := ins_inj ha e1
    have z := Option.some.inj (gv.symm.trans b1.gv)
    injection z with z
    subst z
    exact ⟨_, [(PyData.str x).shown], s1, rfl, (by show 1 ≤ 4; decide), (fun y hy => by rw [List.mem_singleton.mp hy]; have := og.2.rep; omega), fun k y e => by
      match k, e with
      | 0, e => cases e; exact .inr (.inl ⟨x, rfl, og.2, rfl⟩), rfl⟩
  | pair o f1 f2 =>
    have hm : max f1.ht f2.ht + 1 ≤ n + 1 := ht
    obtain ⟨ft1, ft2⟩ := fit.pair
    obtain ⟨v1, l1, v2, l2, _, t1, t2, b, _, fs1, g1, p, eb, e1, b1, s1, _⟩ := hf
    injection eb with eb
    subst eb
    obtain rfl := ins_inj ha e1
    have z := Option.some.inj (gv.symm.trans b1.gv)
    injection z with z
    subst z
    exact ⟨_, [reprOf f1, reprOf f2], s1, rfl, (by show 2 ≤ 4; decide), (fun y hy => by
      simp only [List.mem_cons, List.not_mem_nil, or_false] at hy
      have a1 := repr_len og.2.1
      have a2 := repr_len og.2.2
      have b1 := ft1.1
      have b2 := ft2.1
      rcases hy with rfl | rfl <;> omega), fun k y e => by
      match k, e with
      | 0, e => cases e; exact .inr (.inr (.inr ⟨f1, l1, t1, og.2.1, by omega, ft1, rfl⟩))
      | 1, e => cases e; exact .inr (.inr (.inr ⟨f2, l2, t2, og.2.2, by omega, ft2, rfl⟩)), rfl⟩
  | cho f1 s f2 f3 =>
    have hm : max f1.ht (max f2.ht f3.ht) + 1 ≤ n + 1 := ht
    obtain ⟨ft1, ft2, ft3⟩ := fit.cho
    obtain ⟨v1, l1, v2, l2, v3, l3, _, t1, t2, t3, b, _, fs1, g1, p, t, eb, e1, b1, s1, _, st, _⟩ := hf
    injection eb with eb
    subst eb
    obtain rfl := ins_inj ha e1
    have z := Option.some.inj (gv.symm.trans b1.gv)
    injection z with z
    subst z
    exact ⟨_, [reprOf f1, (numsD s).shown, reprOf f2, reprOf f3], s1, rfl, (by show 4 ≤ 4; decide), (fun y hy => by
      simp only [List.mem_cons, List.not_mem_nil, or_false] at hy
      have a1 := repr_len og.2.1
      have a2 := repr_len og.2.2.1
      have a3 := repr_len og.2.2.2
      have a4 := og.1.shown
      have b1 := ft1.1
      have b2 := ft2.1
      have b3 := ft3.1
      rcases hy with rfl | rfl | rfl | rfl <;> omega), fun k y e => by
      match k, e with
      | 0, e => cases e; exact .inr (.inr (.inr ⟨f1, l1, t1, og.2.1, by omega, ft1, rfl⟩))
      | 1, e => cases e; exact .inr (.inr (.inl ⟨t, s, rfl, st, og.1, rfl⟩))
      | 2, e => cases e; exact .inr (.inr (.inr ⟨f2, l2, t2, og.2.2.1, by omega, ft2, rfl⟩))
      | 3, e => cases e; exact .inr (.inr (.inr ⟨f3, l3, t3, og.2.2.2, by omega, ft3, rfl⟩)), rfl⟩
section
variable {P : Program} {w : World} {K : PySem.W.Frag} {mg : Str → Option Value} {base : Heap} {c : Cs} {f : Addr} {fd : FuncData}
theorem scReprF : FnScope ["self", "told", "part"] ["self"] (defScope sReprF) := ⟨rfl, rfl, rfl, by decide +kernel, rfl, by decide +kernel, by decide +kernel⟩
theorem ok_reprF (F : FunD K "__repr__" "Formula.__repr__" (defArgs sReprF) (defBody sReprF) (defScope sReprF) [] [] f fd) (T : Cl K c) (own : ∀ g, OwnM K (clsOf c g) "__repr__" f) (gRepr : mg "repr" = none) (sm : smOk K = true) : ∀ n, FnG P w K mg base CX0 (n * 2 + 2) f fd ["self"] (spReprF K c n) := by
  have bR : Binds K fd ["self"] [] := F.bindsN fun _ _ _ _ _ _ us hl => match us, hl with | [_], _ => rfl
  intro n
  induction n with
  | zero =>
    refine F.okG scReprF (fun vs H Q E h => ?_) (fun cdv A outer s H vs Q E hgu hr h => ?_)
    · obtain ⟨g, v, l, rfl, _⟩ := h
      rfl
    · obtain ⟨g, v, l, rfl, _, _, ht, _⟩ := h
      cases g <;> simp [Fm.ht] at ht
  | succ n ih =>
    have e3 : (n + 1) * 2 + 2 = (n * 2 + 3) + 1 := by omega
    rw [e3]
    refine F.okG scReprF (fun vs H Q E h => ?_) (fun cdv A outer s H vs Q E hgu hr h => ?_)
    · obtain ⟨g, v, l, rfl, _⟩ := h
      rfl
    · obtain ⟨g, v, l, rfl, hf, og, ht, fit, q⟩ := h
      obtain ⟨a, dx, fs, g1, p, r, rfl, _, ha, b1⟩ := id hf.obj
      obtain ⟨xs, TL, gt⟩ := gv_told hf og ht fit ha b1.gv
      refine ⟨_, PSs.nox (pss_cons (ps_setLc (i := 1) (own := [("part", 2)]) (g := gName 2) (tt := tYes) (te := tCB (rTold K c n) (tCons (tVar 2) tNil)) rfl scReprF.nd rfl rfl (sw_true rfl rfl rfl (by decide +kernel)) (pi_tup (pe_fld (pv 0) rfl)) (blkOk_by (N := ["self", "told", "part"]) (sc := defScope sReprF) (by decide +kernel)) (fun _ _ _ _ _ => by exact pg_name (i := 2) scReprF.nd rfl (Or.inl rfl)) (fun _ _ _ _ _ => by exact pts_nil)
          (fun _ _ _ _ _ => by exact pe_callB (call_told hgu hr.units sm ih own bR hr) rfl gRepr (by decide +kernel) (pa_cons (pv 2) pa_nil)))
        (pss_one (ps_ret (pe_joined (.cons (pe_fmt (pe_fld (pv 0) rfl)) (.cons pe_str (.cons (pe_fmt (pe_join pe_str (pv 1))) (.cons pe_str .nil)))))))), ?_⟩
      walk_at "rd"
      refine lcT ?_
      walk_at "rd"
      refine ⟨a, _, dx, fs, _, rfl, ha, (T.at_ g).cl, (T.at_ g).no "_given", b1.gv, g1, rfl, ⟨_, gt.at_⟩, ?_⟩
      refine lcTS (ys := fun k => V.str (TL.getD k Str.empty)) rfl (by have := gt.few; have := gt.len; omega) gt.at_ (fun k x ex H2 Q' s2 z => ?_) (fun D H2 s2 hD => ?_)
      · walk_at "rd"
        exact ⟨x, _, rfl, (gt.told k x ex).same s2, fun H3 s3 => z H3 s3⟩
      · have eT : (List.range xs.length).map (fun k => V.str (TL.getD k Str.empty)) = TL.map V.str := by
          rw [gt.len]
          apply List.ext_getElem?
          intro i
          rw [List.getElem?_map, List.getElem?_map]
          by_cases hi : i < TL.length
          · rw [List.getElem?_range hi, List.getElem?_eq_getElem hi]
            simp [List.getD_eq_getElem?_getD, List.getElem?_eq_getElem hi]
          · rw [List.getElem?_eq_none (by simpa using hi), List.getElem?_eq_none (by omega)]
            rfl
        rw [eT] at hD
        walk_at "rd"
        have tj : ∀ (x : Str) l, Txt.join x l = Str.join x l := StrLaws.glued_eq_join
        have d2 : (", " : Str).length = 2 := by decide +kernel
        have e1 : ("(" : Str).length = 1 := by decide +kernel
        have e2 : (")" : Str).length = 1 := by decide +kernel
        have nl := name_len og
        have sm2 := sum_le (f := fun x : Str => x.length) (B := 3600) TL gt.small
        have fw := gt.few
        have jl := jn_len ", " TL
        rw [d2] at jl
        refine ⟨a, _, dx, fs, _, rfl, s2 _ _ ha, (T.at_ g).cl, (T.at_ g).no "_called", b1.nm, ?_⟩
        refine .inl ⟨_, rfl, Rd.small (by omega), ?_⟩
        have f1 : (Str.empty ++ nameOf g : Str).length ≤ 6 := by rw [Str.empty_append]; exact nl
        refine ⟨_, rfl, Rd.small (by omega), ?_⟩
        walk_at "rd"
        have f2 : ((Str.empty ++ nameOf g) ++ "(" : Str).length ≤ 7 := by rw [Str.length_append, e1]; omega
        refine ⟨_, rfl, Rd.small (by omega), ?_⟩
        walk_at "rd"
        refine ⟨⟨_, rfl⟩, ?_⟩
        walk_at "rd"
        refine ⟨", ", D, TL, rfl, rfl, .inl (SqL.of hD), by rw [d2]; omega, ?_⟩
        rw [tj]
        refine .inl ⟨_, rfl, Rd.small (by omega), ?_⟩
        have f3 : (((Str.empty ++ nameOf g) ++ "(") ++ Str.join ", " TL : Str).length ≤ 20000 := by rw [Str.length_append]; omega
        refine ⟨_, rfl, Rd.small (by omega), ?_⟩
        walk_at "rd"
        refine ⟨_, rfl, Rd.small (by rw [Str.length_append, e2]; omega), ?_⟩
        walk_at "rd"
        have z := q H2 s2
        rw [gt.repr] at z
        exact z
end
end K12

namespace K12
open PySem PySem.Spec PyProof.Rows L2
local macro_rules | `(tactic| walk_at "rd1") => `(tactic| first
  | (with_reducible refine Rd.seq ?_) | (with_reducible refine Rd.asg ?_) | (with_reducible refine Rd.ret ?_) | (with_reducible refine Rd.nxt ?_) | (with_reducible refine Rd.ifS ?_)
  | (with_reducible refine Rd.op ?_) | (with_reducible refine Rd.un ?_) | (with_reducible refine Rd.cb ?_) | (with_reducible refine Rd.cons ?_) | (with_reducible refine Rd.nil ?_) | (with_reducible refine Rd.ifx ?_)
  | (with_reducible refine Rd.test ?_) | (with_reducible refine Rd.testB ?_) | (with_reducible refine Rd.notT ?_) | (with_reducible refine Rd.isB ?_) | (with_reducible refine Rd.lst ?_) | (with_reducible refine Rd.tup ?_)
  | (with_reducible refine Rd.andV ?_) | (with_reducible refine Rd.orV ?_) | (with_reducible refine Rd.notV ?_) | (with_reducible refine Rd.andT ?_) | (with_reducible refine Rd.orT ?_) | (with_reducible refine Rd.chain ?_)
  | (with_reducible refine Rd.m0 ?_) | (with_reducible refine Rd.m1 ?_) | (with_reducible refine Rd.bm0 ?_) | (with_reducible refine Rd.bm ?_) | (with_reducible refine Rd.sl ?_) | (with_reducible refine Rd.part ?_) | (with_reducible refine Rd.part0 ?_) | (with_reducible refine Rd.isI ?_)
  | (with_reducible refine Rd.fmt ?_) | (with_reducible refine Rd.fmtRD ?_) | (with_reducible refine Rd.meth ?_) | (with_reducible refine makeG ?_) | (with_reducible refine Rd.prop ?_) | (with_reducible refine Rd.js ?_) | (with_reducible refine Rd.js0 ?_) | (with_reducible refine Rd.par ?_) | (with_reducible refine Rd.star ?_) | (with_reducible refine lcR1 ?_) | (with_reducible refine lcR2 ?_) | (with_reducible refine Rd.fld ?_) | (with_reducible refine Rd.sfld ?_) | (with_reducible refine Rd.expr ?_) | (with_reducible refine L2.isNR ?_) | (with_reducible refine L2.methI ?_) | (with_reducible refine Rd.forZ ?_)
  | (with_reducible refine Rd.forEA ?_) | (with_reducible refine Rd.forR1 ?_) | (with_reducible refine Rd.forR2 ?_) | (with_reducible refine Rd.forL ?_) | (with_reducible refine Rd.forT ?_)
  | (with_reducible refine Rd.call ?_) | (with_reducible refine Rd.asgG ?_) | (with_reducible refine Rd.gNm ?_) | (with_reducible refine Rd.gSb ?_) | (with_reducible refine Rd.gC ?_) | (with_reducible refine Rd.gN ?_)
  | ((with_reducible refine' Rd.var ?hv ?_); (case hv => exact rfl)) | (with_reducible refine Rd.c ?_) | (with_reducible refine Rd.i0 ?_) | (with_reducible refine Rd.neg ?_)
  | ((with_reducible refine' Rd.iC ?hc ?_); (case hc => first | (show (0 : Int) < _; decide) | exact ⟨by decide, by decide⟩ | exact ⟨by decide, by decide, by decide⟩ | exact .inl ⟨by decide, by decide⟩ | exact .inr ⟨by decide, by decide⟩ | exact .inl ⟨by omega, by omega⟩ | (show (0 : Int) < _; omega) | exact ⟨by omega, by omega⟩))
  | ((with_reducible refine' Rd.eqS ?hc ?_); (case hc => rfl)) | ((with_reducible refine' Rd.neS ?hc ?_); (case hc => rfl)))
local macro_rules | `(tactic| walk_at "rd") => `(tactic| repeat walk_at "rd1")
abbrev sIsInt : Stmt := topA iis_integer
abbrev sAddF : Stmt := sMeth iFormula 11
/-- a formula's class is not int's -/
structure Ni (K : PySem.W.Frag) (c : Cs) : Prop where
  no : ∀ f, PySem.W.kitOne K (.ref (clsOf c f)) (.type "int") = some false
def spIsInt (K : PySem.W.Frag) (c : Cs) : Sp := fun vs H Q _ => ∃ y, vs = [y] ∧ ((∃ i : Int, y = .int i ∧ Q (.bl true) H) ∨ (∃ f l, FmAt K c H f y l ∧ Q (.bl false) H))
def spAddF (K : PySem.W.Frag) (c : Cs) : Sp := fun vs H Q _ => ∃ (f1 : Fm) (v1 y : V) (l1 : List V), vs = [v1, y] ∧ FmAt K c H f1 v1 l1 ∧
  ((∃ f2 l2, FmAt K c H f2 y l2 ∧ Fits (.pair 0 f1 f2) ∧ ∀ v H' l, New K c H H' (.pair 0 f1 f2) v l → Q v H') ∨ (∃ n : Nat, n ≤ 8 ∧ y = .int (n : Nat) ∧ Fits (.pair 0 f1 (.num n)) ∧ ∀ v H' l, New K c H H' (.pair 0 f1 (.num n)) v l → Q v H'))
section
variable {P : Program} {w : World} {K : PySem.W.Frag} {mg : Str → Option Value} {base : Heap} {c : Cs} {CF f fI : Addr} {fd fdI : FuncData}
theorem scIsInt : FnScope ["value"] ["value"] (defScope sIsInt) := ⟨rfl, rfl, rfl, by decide +kernel, rfl, by decide +kernel, by decide +kernel⟩
theorem ok_isInt (F : FnP K "is_integer" sIsInt f fd) (T : Cl K c) (B : Fb K mg c CF) (N : Ni K c) (gIs : mg "isinstance" = none) (gInt : mg "int" = none) (gBool : mg "bool" = none) : FnOk P w K mg base CX0 1 f fd ["value"] (spIsInt K c) := by
  refine F.ok scIsInt (fun vs H Q E h => ?_) (fun cdv A outer s H vs Q E hr h => ?_)
  · obtain ⟨y, rfl, _⟩ := h
    rfl
  · obtain ⟨y, rfl, q⟩ := h
    refine ⟨_, PSs.nox (pss_one (ps_ret (pe_and (pe_callB call_isi rfl gIs (by decide +kernel) (pa_cons (pv 0) (pa_cons (pe_bltn rfl gInt (by decide +kernel) (v := .ty "int") rfl) pa_nil)))
      (pe_one (pe_not (pe_callB call_isi rfl gIs (by decide +kernel) (pa_cons (pv 0) (pa_cons (pe_bltn rfl gBool (by decide +kernel) (v := .ty "bool") rfl) pa_nil)))))))), ?_⟩
    rcases q with ⟨i, rfl, q⟩ | ⟨g, l, hg, q⟩
    · walk_at "rd"
      refine Rd.isi (k := true) (.base (.int _)) (by decide +kernel) ?_
      refine Rd.isT rfl ?_
      walk_at "rd"
      refine Rd.isi (k := false) (.base (.int _)) (by decide +kernel) ?_
      exact ⟨_, rfl, q⟩
    · walk_at "rd"
      refine ⟨y, .ty "int", _, .type "int", false, rfl, .ty "int", fm_ty T B hg, N.no g, ?_⟩
      refine Rd.isF rfl ?_
      exact q
theorem scAddF : FnScope ["self", "other"] ["self", "other"] (defScope sAddF) := ⟨rfl, rfl, rfl, by decide +kernel, rfl, by decide +kernel, by decide +kernel⟩
theorem ok_addF (F : FunD K "__add__" "Formula.__add__" (defArgs sAddF) (defBody sAddF) (defScope sAddF) [] [] f fd) (M : Mks P w K mg base c) (FI : FnP K "is_integer" sIsInt fI fdI) (GI : FnOk P w K mg base CX0 1 fI fdI ["value"] (spIsInt K c)) (gI : mg "is_integer" = some (.ref fI)) : FnOk P w K mg base CX0 5 f fd ["self", "other"] (spAddF K c) := by
  have bI : Binds K fdI ["value"] [] := FI.bindsN fun _ _ _ _ _ _ us hl => match us, hl with | [_], _ => rfl
  obtain ⟨fN, fdN, cN⟩ := M.num
  obtain ⟨fp, fdp, cp⟩ := M.pair 0 (by decide)
  refine F.ok scAddF (fun vs H Q E h => ?_) (fun cdv A outer s H vs Q E hr h => ?_)
  · obtain ⟨f1, v1, y, l1, rfl, _⟩ := h
    rfl
  · obtain ⟨f1, v1, y, l1, rfl, h1, q⟩ := h
    refine ⟨_, PSs.nox (pss_cons (ps_if (pt_val (pe_call GI (hr.mono (by decide)) rfl gI FI.kp bI .nil pass0 (pa_cons (pv 1) pa_nil)))
        (pss_one (ps_ret (pe_make cp.mkr cp.ok hr rfl cp.g cp.b .nil pass0 (pa_cons (pv 0) (pa_cons (pe_make cN.mkr cN.ok hr rfl cN.g cN.b .nil pass0 (pa_cons (pv 1) pa_nil)) pa_nil))))) pss_nil)
      (pss_one (ps_ret (pe_make cp.mkr cp.ok hr rfl cp.g cp.b .nil pass0 (pa_cons (pv 0) (pa_cons (pv 1) pa_nil)))))), ?_⟩
    rcases q with ⟨f2, l2, h2, fit, q⟩ | ⟨n, hn, rfl, fit, q⟩
    · walk_at "rd"
      refine ⟨y, rfl, .inr ⟨f2, l2, h2, ?_⟩⟩
      walk_at "rd"
      refine iteF ?_
      walk_at "rd"
      exact mkPair h1 h2 fit.1 fit.2 fun v H' z => q v H' _ z
    · walk_at "rd"
      refine ⟨_, rfl, .inl ⟨_, rfl, ?_⟩⟩
      walk_at "rd"
      refine iteT ?_
      walk_at "rd"
      refine mkNum hn fun v2 H2 l2 z2 => ?_
      walk_at "rd"
      exact mkPair (h1.kp (kp_same z2.same)) z2.at_ fit.1 fit.2 fun v H' z => q v H' _ ⟨z2.same.trans z.same, z.at_, z.new.imp fun x e => ⟨e.1, z2.same.free e.2⟩, z.sq⟩
end
end K12

namespace K12
open PySem PySem.Spec PyProof.Rows L2
local macro_rules | `(tactic| walk_at "rd1") => `(tactic| first
  | (with_reducible refine Rd.seq ?_) | (with_reducible refine Rd.asg ?_) | (with_reducible refine Rd.ret ?_) | (with_reducible refine Rd.nxt ?_) | (with_reducible refine Rd.ifS ?_)
  | (with_reducible refine Rd.op ?_) | (with_reducible refine Rd.un ?_) | (with_reducible refine Rd.cb ?_) | (with_reducible refine Rd.cons ?_) | (with_reducible refine Rd.nil ?_) | (with_reducible refine Rd.ifx ?_)
  | (with_reducible refine Rd.test ?_) | (with_reducible refine Rd.testB ?_) | (with_reducible refine Rd.notT ?_) | (with_reducible refine Rd.isB ?_) | (with_reducible refine Rd.lst ?_) | (with_reducible refine Rd.tup ?_)
  | (with_reducible refine Rd.andV ?_) | (with_reducible refine Rd.orV ?_) | (with_reducible refine Rd.notV ?_) | (with_reducible refine Rd.andT ?_) | (with_reducible refine Rd.orT ?_) | (with_reducible refine Rd.chain ?_)
  | (with_reducible refine Rd.m0 ?_) | (with_reducible refine Rd.m1 ?_) | (with_reducible refine Rd.bm0 ?_) | (with_reducible refine Rd.bm ?_) | (with_reducible refine Rd.sl ?_) | (with_reducible refine Rd.part ?_) | (with_reducible refine Rd.part0 ?_) | (with_reducible refine Rd.isI ?_)
  | (with_reducible refine Rd.fmt ?_) | (with_reducible refine Rd.fmtRD ?_) | (with_reducible refine Rd.meth ?_) | (with_reducible refine makeG ?_) | (with_reducible refine Rd.prop ?_) | (with_reducible refine Rd.js ?_) | (with_reducible refine Rd.js0 ?_) | (with_reducible refine Rd.par ?_) | (with_reducible refine Rd.star ?_) | (with_reducible refine lcR1 ?_) | (with_reducible refine lcR2 ?_) | (with_reducible refine Rd.fld ?_) | (with_reducible refine Rd.sfld ?_) | (with_reducible refine Rd.expr ?_) | (with_reducible refine L2.isNR ?_) | (with_reducible refine L2.methI ?_) | (with_reducible refine Rd.forZ ?_)
  | (with_reducible refine Rd.forEA ?_) | (with_reducible refine Rd.forR1 ?_) | (with_reducible refine Rd.forR2 ?_) | (with_reducible refine Rd.forL ?_) | (with_reducible refine Rd.forT ?_)
  | (with_reducible refine Rd.call ?_) | (with_reducible refine Rd.asgG ?_) | (with_reducible refine Rd.gNm ?_) | (with_reducible refine Rd.gSb ?_) | (with_reducible refine Rd.gC ?_) | (with_reducible refine Rd.gN ?_)
  | ((with_reducible refine' Rd.var ?hv ?_); (case hv => exact rfl)) | (with_reducible refine Rd.c ?_) | (with_reducible refine Rd.i0 ?_) | (with_reducible refine Rd.neg ?_)
  | ((with_reducible refine' Rd.iC ?hc ?_); (case hc => first | (show (0 : Int) < _; decide) | exact ⟨by decide, by decide⟩ | exact ⟨by decide, by decide, by decide⟩ | exact .inl ⟨by decide, by decide⟩ | exact .inr ⟨by decide, by decide⟩ | exact .inl ⟨by omega, by omega⟩ | (show (0 : Int) < _; omega) | exact ⟨by omega, by omega⟩))
  | ((with_reducible refine' Rd.eqS ?hc ?_); (case hc => rfl)) | ((with_reducible refine' Rd.neS ?hc ?_); (case hc => rfl)))
local macro_rules | `(tactic| walk_at "rd") => `(tactic| repeat walk_at "rd1")
/-! ### the nodes in their sequence, kept once asked -/
/-- formulas of which the nodes are kept from now on, else all as before -/
def SeqC (K : PySem.W.Frag) (c : Cs) (l : List V) (N : Addr → Prop) (H H' : Hp) : Prop := ∀ b o, H b = some o → H' b = some o ∨ (V.ref b ∈ l ∧ ∃ C dx fs q lb g, o = .ins C dx fs ∧ N q ∧ fs.lookup ("_sequence" : Str) = some .non ∧ FmAt K c H g (.ref b) lb ∧ Okf g ∧ H' b = some (.ins C dx (putF "_sequence" (.ref q) fs)) ∧ H' q = some (.lst lb))
theorem SeqC.refl {K : PySem.W.Frag} {c : Cs} {l : List V} {N : Addr → Prop} {H : Hp} : SeqC K c l N H H := fun _ _ e => .inl e
theorem seq_same {K : PySem.W.Frag} {c : Cs} {l : List V} {N : Addr → Prop} {H H' : Hp} (s : Same H H') : SeqC K c l N H H' := fun b o e => .inl (s b o e)
theorem SeqC.oth {K : PySem.W.Frag} {c : Cs} {l : List V} {N : Addr → Prop} {H H' : Hp} (k : SeqC K c l N H H') {b : Addr} {o : HO} (e : H b = some o) (n : ∀ C dx fs, o ≠ .ins C dx fs) : H' b = some o := by
  rcases k b o e with h | ⟨_, C, dx, fs, _, _, _, rfl, _⟩
  · exact h
  · exact absurd rfl (n C dx fs)
theorem SeqC.free {K : PySem.W.Frag} {c : Cs} {l : List V} {N : Addr → Prop} {H H' : Hp} (k : SeqC K c l N H H') {b : Addr} (e : H' b = none) : H b = none := by
  cases h : H b with
  | none => rfl
  | some o =>
    rcases k b o h with z | ⟨_, C, dx, fs, _, _, _, _, _, _, _, _, z, _⟩ <;> (rw [e] at z; cases z)
theorem sqt_seq {K : PySem.W.Frag} {c : Cs} {l : List V} {N : Addr → Prop} {H H' : Hp} {a : Addr} {xs : List V} (k : SeqC K c l N H H') (h : SqT K H a xs) : SqT K H' a xs := by
  rcases h with (h | ⟨o, h⟩) | h
  · exact .inl (.inl (k.oth h fun _ _ _ z => by cases z))
  · exact .inl (.inr ⟨o, k.oth h fun _ _ _ z => by cases z⟩)
  · exact .inr h
theorem len_putF {f : Str} {v : V} : ∀ fs : List (Str × V), (putF f v fs).length ≤ fs.length + 1
  | [] => Nat.le_refl _
  | (g, x) :: r => by
    unfold putF
    split
    · exact Nat.le_succ _
    · exact Nat.succ_le_succ (len_putF r)
theorem len_putF' {f : Str} {v x : V} : ∀ {fs : List (Str × V)}, fs.lookup f = some x → (putF f v fs).length = fs.length
  | [], h => by cases h
  | (g, y) :: r, h => by
    unfold putF
    split
    · rfl
    · rename_i ne
      have e : (f == g) = false := beq_eq_false_iff_ne.mpr fun e => ne e.symm
      have h : (match f == g with | true => some y | false => r.lookup f) = some x := h
      rw [e] at h
      exact congrArg Nat.succ (len_putF' h)
theorem all_putF {f : Str} {v : V} {p : Str → Bool} (hf : p f = true) : ∀ {fs : List (Str × V)}, (fs.all fun q => p q.1) = true → ((putF f v fs).all fun q => p q.1) = true
  | [], _ => by
    show (List.all [(f, v)] fun q => p q.1) = true
    rw [List.all_cons, hf]
    rfl
  | (g, x) :: r, h => by
    rw [List.all_cons, Bool.and_eq_true] at h
    unfold putF
    split
    · rw [List.all_cons, h.2, Bool.and_true]
      exact h.1
    · rw [List.all_cons, all_putF hf h.2, Bool.and_true]
      exact h.1
/-- what is known of one object, behind the change -/
theorem Bs.seq {K : PySem.W.Frag} {c : Cs} {l : List V} {N : Addr → Prop} {H H' : Hp} (inj : InjT K H) (k : SeqC K c l N H H') {f : Fm} {a C dx g p : Addr} {fs : List (Str × V)} {name : Str} {q : Nat × Nat} {m : List V} (of : Okf f) (hf : FmAt K c H f (.ref a) m) (ha : H a = some (.ins C dx fs)) (b : Bs H fs name g p q m) :
    ∃ fs', H' a = some (.ins C dx fs') ∧ Bs H' fs' name g p q m ∧ ∀ x : Str, x ≠ "_sequence" → fs'.lookup x = fs.lookup x := by
  rcases k a _ ha with h | ⟨_, C', dx', fs', q', lb, g', e, _, ns, fg, og, h, hq⟩
  · refine ⟨fs, h, ⟨b.nm, b.gv, b.pt, b.mn, b.dp, ?_, b.few, b.ks⟩, fun _ _ => rfl⟩
    obtain ⟨z, e, w⟩ := b.sq
    exact ⟨z, e, w.imp id fun ⟨d, e, w⟩ => ⟨d, e, k.oth w fun _ _ _ z => by cases z⟩⟩
  · cases e
    obtain ⟨rfl, rfl⟩ := FmAt.det inj of og hf fg
    have ne : ∀ x : Str, x ≠ "_sequence" → (putF "_sequence" (.ref q') fs).lookup x = fs.lookup x := fun x hx => by rw [lookup_putF, if_neg hx]
    refine ⟨_, h, ⟨(ne _ (by decide +kernel)).trans b.nm, (ne _ (by decide +kernel)).trans b.gv, (ne _ (by decide +kernel)).trans b.pt, (ne _ (by decide +kernel)).trans b.mn, (ne _ (by decide +kernel)).trans b.dp, ⟨.ref q', by rw [lookup_putF, if_pos rfl], .inr ⟨q', rfl, hq⟩⟩, ?_, all_putF (p := fun x => fldNames.contains x) (by decide +kernel) b.ks⟩, ne⟩
    rw [len_putF' ns]
    exact b.few
theorem FmAt.seq {K : PySem.W.Frag} {c : Cs} {l : List V} {N : Addr → Prop} {H H' : Hp} (inj : InjT K H) (k : SeqC K c l N H H') : ∀ {f : Fm} {v : V} {m : List V}, Okf f → FmAt K c H f v m → FmAt K c H' f v m
  | .num n, v, m, o, h => by
    obtain ⟨rfl, hn, a, dx, fs, g, p, rfl, h1, h2, h3, h4, h5⟩ := id h
    obtain ⟨fs', e, b, ne⟩ := Bs.seq inj k o h h1 h2
    exact ⟨rfl, hn, a, dx, fs', g, p, rfl, e, b, sqt_seq k h3, sqt_seq k h4, (ne _ (by decide +kernel)).trans h5⟩
  | .ref w x, v, m, o, h => by
    obtain ⟨rfl, a, dx, fs, g, p, rfl, h1, h2, h3, h4, h5, h6⟩ := id h
    obtain ⟨fs', e, b, ne⟩ := Bs.seq inj k o h h1 h2
    exact ⟨rfl, a, dx, fs', g, p, rfl, e, b, sqt_seq k h3, sqt_seq k h4, (ne _ (by decide +kernel)).trans h5, (ne _ (by decide +kernel)).trans h6⟩
  | .pair w f1 f2, v, m, o, h => by
    obtain ⟨v1, l1, v2, l2, rfl, t1, t2, a, dx, fs, g, p, rfl, h1, h2, h3, h4, h5, h6⟩ := id h
    obtain ⟨fs', e, b, ne⟩ := Bs.seq inj k o h h1 h2
    exact ⟨v1, l1, v2, l2, rfl, FmAt.seq inj k o.2.1 t1, FmAt.seq inj k o.2.2 t2, a, dx, fs', g, p, rfl, e, b, sqt_seq k h3, sqt_seq k h4, (ne _ (by decide +kernel)).trans h5, (ne _ (by decide +kernel)).trans h6⟩
  | .cho f1 s f2 f3, v, m, o, h => by
    obtain ⟨v1, l1, v2, l2, v3, l3, rfl, t1, t2, t3, a, dx, fs, g, p, t, rfl, h1, h2, h3, h4, h5, h6, h7, h8, h9⟩ := id h
    obtain ⟨fs', e, b, ne⟩ := Bs.seq inj k o h h1 h2
    exact ⟨v1, l1, v2, l2, v3, l3, rfl, FmAt.seq inj k o.2.1 t1, FmAt.seq inj k o.2.2.1 t2, FmAt.seq inj k o.2.2.2 t3, a, dx, fs', g, p, t, rfl, e, b, sqt_seq k h3, sqt_seq k h4, sqt_seq k h5, (ne _ (by decide +kernel)).trans h6, (ne _ (by decide +kernel)).trans h7, (ne _ (by decide +kernel)).trans h8, (ne _ (by decide +kernel)).trans h9⟩
/-- each node is a formula -/
theorem FmAt.node {K : PySem.W.Frag} {c : Cs} {H : Hp} : ∀ {f : Fm} {v : V} {l : List V}, Okf f → FmAt K c H f v l → ∀ u ∈ l, ∃ g m, FmAt K c H g u m ∧ Okf g
  | .num n, v, l, o, h, u, hu => by
    obtain ⟨rfl, _⟩ := id h
    rw [List.mem_singleton.mp hu]
    exact ⟨_, _, h, o⟩
  | .ref w x, v, l, o, h, u, hu => by
    obtain ⟨rfl, _⟩ := id h
    rw [List.mem_singleton.mp hu]
    exact ⟨_, _, h, o⟩
  | .pair w f1 f2, v, l, o, h, u, hu => by
    obtain ⟨v1, l1, v2, l2, rfl, t1, t2, _⟩ := id h
    rw [List.mem_cons, List.mem_append] at hu
    rcases hu with rfl | hu | hu
    · exact ⟨_, _, h, o⟩
    · exact FmAt.node o.2.1 t1 u hu
    · exact FmAt.node o.2.2 t2 u hu
  | .cho f1 s f2 f3, v, l, o, h, u, hu => by
    obtain ⟨v1, l1, v2, l2, v3, l3, rfl, t1, t2, t3, _⟩ := id h
    rw [List.mem_cons, List.mem_append, List.mem_append] at hu
    rcases hu with rfl | hu | hu | hu
    · exact ⟨_, _, h, o⟩
    · exact FmAt.node o.2.1 t1 u hu
    · exact FmAt.node o.2.2.1 t2 u hu
    · exact FmAt.node o.2.2.2 t3 u hu
/-- all that changes are nodes of l, told at the first heap -/
theorem SeqC.trans {K : PySem.W.Frag} {c : Cs} {l l' : List V} {N N' : Addr → Prop} {H H1 H2 : Hp} (imp : ∀ q, N' q → N q) (inj : InjT K H) (inj1 : InjT K H1) (nodes : ∀ u ∈ l, ∃ g m, FmAt K c H g u m ∧ Okf g) (sub : ∀ u ∈ l', u ∈ l) (k : SeqC K c l N H H1) (k' : SeqC K c l' N' H1 H2) : SeqC K c l N H H2 := by
  intro b o e
  rcases k b o e with h | ⟨hb, C, dx, fs, q, lb, g, rfl, nq, ns, fg, og, h, hq⟩
  · rcases k' b o h with z | ⟨hb, C, dx, fs, q, lb, g, rfl, nq, ns, fg, og, h', hq⟩
    · exact .inl z
    · obtain ⟨g', m, fg', og'⟩ := nodes _ (sub _ hb)
      obtain ⟨rfl, rfl⟩ := FmAt.det inj1 og og' fg (fg'.seq inj k og')
      exact .inr ⟨sub _ hb, C, dx, fs, q, lb, g, rfl, imp _ nq, ns, fg', og', h', hq⟩
  · rcases k' b _ h with z | ⟨_, C', dx', fs', q', _, _, e', _, ns', _⟩
    · exact .inr ⟨hb, C, dx, fs, q, lb, g, rfl, nq, ns, fg, og, z, k'.oth hq fun _ _ _ z => by cases z⟩
    · cases e'
      rw [lookup_putF, if_pos rfl] at ns'
      cases ns'
/-- an object that was not there may change -/
theorem SeqC.set {K : PySem.W.Frag} {c : Cs} {l : List V} {N : Addr → Prop} {H H1 : Hp} (k : SeqC K c l N H H1) {D : Addr} {o : HO} (hD : H D = none) (nD : ∀ q, N q → q ≠ D) : SeqC K c l N H (upd H1 D o) := by
  intro b u e
  have ne : b ≠ D := ne_of_none e hD
  rw [upd_ne ne]
  rcases k b u e with h | ⟨hb, C, dx, fs, q, lb, g, rfl, nq, ns, fg, og, h, hq⟩
  · exact .inl h
  · exact .inr ⟨hb, C, dx, fs, q, lb, g, rfl, nq, ns, fg, og, h, by rw [upd_ne (nD q nq)]; exact hq⟩
theorem putF_putF {f : Str} {v w : V} : ∀ fs : List (Str × V), putF f v (putF f w fs) = putF f v fs
  | [] => by
    show putF f v [(f, w)] = [(f, v)]
    unfold putF
    rw [if_pos rfl]
  | (g, x) :: r => by
    by_cases h : g = f
    · have e : putF f w ((g, x) :: r) = (g, w) :: r := by unfold putF; rw [if_pos h]
      rw [e]
      unfold putF
      rw [if_pos h, if_pos h]
    · have e : putF f w ((g, x) :: r) = (g, x) :: putF f w r := by conv => lhs; unfold putF; rw [if_neg h]
      rw [e]
      have e1 : putF f v ((g, x) :: putF f w r) = (g, x) :: putF f v (putF f w r) := by conv => lhs; unfold putF; rw [if_neg h]
      have e2 : putF f v ((g, x) :: r) = (g, x) :: putF f v r := by conv => lhs; unfold putF; rw [if_neg h]
      rw [e1, e2, putF_putF r]
/-- the parts of a formula -/
structure Pt where
  f : Fm
  v : V
  l : List V
def partsOf : Fm → List Fm
  | .pair _ l r => [l, r]
  | .cho t _ a b => [t, a, b]
  | _ => []
structure PtsAt (K : PySem.W.Frag) (c : Cs) (H : Hp) (f : Fm) (v : V) (l : List V) (p : Addr) (ps : List Pt) : Prop where
  at_ : SqT K H p (ps.map (·.v))
  nodes : l = v :: (ps.map (·.l)).flatten
  all : ∀ x ∈ ps, FmAt K c H x.f x.v x.l ∧ Okf x.f ∧ x.f.ht + 1 ≤ f.ht
  few : ps.length ≤ 3
  many : f.q.1 = fmN (ps.map (·.f.q))
  shape : ps.map (·.f) = partsOf f
theorem FmAt.parts {K : PySem.W.Frag} {c : Cs} {H : Hp} {f : Fm} {a C dx p : Addr} {fs : List (Str × V)} {l : List V} (o : Okf f) (h : FmAt K c H f (.ref a) l) (ha : H a = some (.ins C dx fs)) (hp : fs.lookup ("_parts" : Str) = some (.ref p)) : ∃ ps, PtsAt K c H f (.ref a) l p ps := by
  cases f with
  | num n =>
    obtain ⟨rfl, _, b, _, fs1, g1, p1, eb, e1, b1, _, s1, _⟩ := id h
    injection eb with eb
    subst eb
    obtain rfl := ins_inj ha e1
    have x := Option.some.inj (hp.symm.trans b1.pt)
    injection x with x
    subst x
    exact ⟨[], s1, rfl, fun x hx => absurd hx List.not_mem_nil, by decide, rfl, rfl⟩
  | ref w y =>
    obtain ⟨rfl, b, _, fs1, g1, p1, eb, e1, b1, _, s1, _⟩ := id h
    injection eb with eb
    subst eb
    obtain rfl := ins_inj ha e1
    have x := Option.some.inj (hp.symm.trans b1.pt)
    injection x with x
    subst x
    exact ⟨[], s1, rfl, fun x hx => absurd hx List.not_mem_nil, by decide, rfl, rfl⟩
  | pair w f1 f2 =>
    obtain ⟨v1, l1, v2, l2, rfl, t1, t2, b, _, fs1, g1, p1, eb, e1, b1, _, s1, _⟩ := id h
    injection eb with eb
    subst eb
    obtain rfl := ins_inj ha e1
    have x := Option.some.inj (hp.symm.trans b1.pt)
    injection x with x
    subst x
    have ht : max f1.ht f2.ht + 1 ≤ max f1.ht f2.ht + 1 := Nat.le_refl _
    refine ⟨[⟨f1, v1, l1⟩, ⟨f2, v2, l2⟩], s1, by simp, fun x hx => ?_, by show 2 ≤ 3; decide, rfl, rfl⟩
    rw [List.mem_cons, List.mem_singleton] at hx
    rcases hx with rfl | rfl
    · exact ⟨t1, o.2.1, by show f1.ht + 1 ≤ max f1.ht f2.ht + 1; omega⟩
    · exact ⟨t2, o.2.2, by show f2.ht + 1 ≤ max f1.ht f2.ht + 1; omega⟩
  | cho f1 s f2 f3 =>
    obtain ⟨v1, l1, v2, l2, v3, l3, rfl, t1, t2, t3, b, _, fs1, g1, p1, t, eb, e1, b1, _, s1, _⟩ := id h
    injection eb with eb
    subst eb
    obtain rfl := ins_inj ha e1
    have x := Option.some.inj (hp.symm.trans b1.pt)
    injection x with x
    subst x
    refine ⟨[⟨f1, v1, l1⟩, ⟨f2, v2, l2⟩, ⟨f3, v3, l3⟩], s1, by simp, fun x hx => ?_, by show 3 ≤ 3; decide, rfl, rfl⟩
    rw [List.mem_cons, List.mem_cons, List.mem_singleton] at hx
    rcases hx with rfl | rfl | rfl
    · exact ⟨t1, o.2.1, by show f1.ht + 1 ≤ max f1.ht (max f2.ht f3.ht) + 1; omega⟩
    · exact ⟨t2, o.2.2.1, by show f2.ht + 1 ≤ max f1.ht (max f2.ht f3.ht) + 1; omega⟩
    · exact ⟨t3, o.2.2.2, by show f3.ht + 1 ≤ max f1.ht (max f2.ht f3.ht) + 1; omega⟩
theorem nodes_len {K : PySem.W.Frag} {c : Cs} {H : Hp} : ∀ {f : Fm} {v : V} {l : List V}, FmAt K c H f v l → l.length = f.q.1
  | .num n, v, l, h => by
    obtain ⟨rfl, _⟩ := id h
    rfl
  | .ref w x, v, l, h => by
    obtain ⟨rfl, _⟩ := id h
    rfl
  | .pair w f1 f2, v, l, h => by
    obtain ⟨v1, l1, v2, l2, rfl, t1, t2, _⟩ := id h
    have e1 := nodes_len t1
    have e2 := nodes_len t2
    rw [q_pair]
    simp only [List.length_cons, List.length_append]
    omega
  | .cho f1 s f2 f3, v, l, h => by
    obtain ⟨v1, l1, v2, l2, v3, l3, rfl, t1, t2, t3, _⟩ := id h
    have e1 := nodes_len t1
    have e2 := nodes_len t2
    have e3 := nodes_len t3
    rw [q_cho]
    simp only [List.length_cons, List.length_append]
    omega
abbrev sEvery : Stmt := sMeth iFormula 15
def spEvery (K : PySem.W.Frag) (c : Cs) (n : Nat) : Sp := fun vs H Q _ => ∃ (f : Fm) (v : V) (l : List V), vs = [v] ∧ FmAt K c H f v l ∧ Okf f ∧ f.ht ≤ n ∧ f.q.1 ≤ 1000 ∧ ∀ H' q, SeqC K c l (fun q => H q = none) H H' → H' q = some (.lst l) → Q (.ref q) H'
section
variable {P : Program} {w : World} {K : PySem.W.Frag} {mg : Str → Option Value} {base : Heap} {c : Cs} {f : Addr} {fd : FuncData}
theorem scEvery : FnScope ["self", "found", "part"] ["self"] (defScope sEvery) := ⟨rfl, rfl, rfl, by decide +kernel, rfl, by decide +kernel, by decide +kernel⟩
theorem ok_every (F : FunD K "_every" "Formula._every" (defArgs sEvery) (defBody sEvery) (defScope sEvery) [] [] f fd) (T : Cl K c) (m : ∀ g, Meth K (clsOf c g) "_every" f) : ∀ n, FnOk P w K mg base CX0 (n + 1) f fd ["self"] (spEvery K c n) := by
  have bF : Binds K fd ["self"] [] := F.bindsN fun _ _ _ _ _ _ us hl => match us, hl with | [_], _ => rfl
  have nd := scEvery.nd
  intro n
  induction n with
  | zero =>
    refine F.ok scEvery (fun vs H Q E h => ?_) (fun cdv A outer s H vs Q E hr h => ?_)
    · obtain ⟨g, v, l, rfl, _⟩ := h
      rfl
    · obtain ⟨g, v, l, rfl, _, _, ht, _⟩ := h
      cases g <;> simp [Fm.ht] at ht
  | succ n ih =>
    refine F.ok scEvery (fun vs H Q E h => ?_) (fun cdv A outer s H vs Q E hr h => ?_)
    · obtain ⟨g, v, l, rfl, _⟩ := h
      rfl
    · obtain ⟨g, v, l, rfl, hf, og, ht, few, q⟩ := h
      refine ⟨_, PSs.nox (pss_inj (pss_cons (ps_if (pt_cmp (pc_isN (pe_fld (pv 0) rfl))) (pss_cons (ps_set (i := 1) nd rfl (Or.inl rfl) (pe_lst (pa_cons (pv 0) pa_nil)))
          (pss_cons (ps_for PassesOwn.never rfl (pi_tup (pe_fld (pv 0) rfl)) (pg_name (i := 2) nd rfl (Or.inl rfl))
            (pss_inj (pss_one (ps_expr (pe_bm PySem.F.plainAttrs_list PySem.F.slot_list_extend PySem.F.type_list_extend mt_extend (pv 1) (pa_cons (pe_methI0 (ι := Fm) (C := clsOf c) (f := fun _ => f) (fd := fun _ => fd) (sp := fun _ => spEvery K c n) (pv 2) (fun i => (T.at_ i).cl) m (fun _ => ih) hr (fun _ => bF) .nil pass0) pa_nil))))))
          (pss_one (ps_fld (pv 0) (pv 1) rfl)))) pss_nil)
        (pss_one (ps_ret (pe_fld (pv 0) rfl))))), ?_⟩
      intro inj
      obtain ⟨a, dx, fs, g1, p, r, rfl, el, ha, b1⟩ := id hf.obj
      obtain ⟨z, ez, hz⟩ := b1.sq
      walk_at "rd"
      refine ⟨a, _, dx, fs, _, rfl, ha, (T.at_ g).cl, (T.at_ g).no "_sequence", ez, ?_⟩
      obtain ⟨ps, pts⟩ := hf.parts og ha b1.pt
      rcases hz with rfl | ⟨b, rfl, hb⟩
      · refine Rd.isT rfl ?_
        walk_at "rd"
        refine ⟨Rd.small (by show 1 ≤ 100000; decide), fun D nD => ?_⟩
        have sD := same_new (o := HO.lst ([V.ref a])) nD
        have tD := upd_same (H := H) (a := D) (o := HO.lst ([V.ref a]))
        generalize upd H D (HO.lst ([V.ref a])) = H1 at sD tD ⊢
        walk_at "rd"
        refine ⟨a, _, dx, fs, _, rfl, sD _ _ ha, (T.at_ g).cl, (T.at_ g).no "_parts", b1.pt, p, rfl, ⟨_, pts.at_.ext sD⟩, ?_⟩
        have noN : ∀ x ∈ l, ∃ g m, FmAt K c H g x m ∧ Okf g := hf.node og
        refine for_it walk_tup (fun i σ H' => (∃ b, σ = [some (.ref a), some (.ref D), b]) ∧ SeqC K c l (fun q => H q = none ∧ q ≠ D) H H' ∧ H' D = some (.lst (.ref a :: ((ps.take i).map (·.l)).flatten))) ⟨⟨_, rfl⟩, seq_same sD, by simpa using tD⟩ (fun i σ H' _ z => sqt_seq z.2.1 pts.at_) (fun i v σ H2 H3 hi hy z => ?_) (fun σ H' z => ?_)
        · obtain ⟨⟨b, rfl⟩, k2, d2⟩ := hy
          obtain ⟨rfl, ev⟩ := z
          rw [List.getElem?_map] at ev
          cases ep : ps[i]? with
          | none => rw [ep] at ev; cases ev
          | some x =>
          rw [ep] at ev
          have ev : x.v = v := Option.some.inj ev
          subst ev
          have mx : x ∈ ps := List.mem_of_getElem? ep
          obtain ⟨hx, ox, hx2⟩ := pts.all x mx
          have subx : ∀ u ∈ x.l, u ∈ l := fun u hu => by
            rw [pts.nodes]
            exact List.mem_cons_of_mem _ (List.mem_flatten.mpr ⟨x.l, List.mem_map.mpr ⟨x, mx, rfl⟩, hu⟩)
          have hx3 := hx.seq inj k2 ox
          obtain ⟨a', dx', fs', g1', p', r', ev', _, ha', b1'⟩ := id hx3.obj
          walk_at "rd"
          intro inj1
          walk_at "rd"
          refine ⟨.inl ⟨rfl, _, SqL.of d2⟩, ?_⟩
          walk_at "rd"
          refine ⟨x.f, a', dx', fs', ev', ha', b1'.meth "_every", ?_⟩
          walk_at "rd"
          have lx := nodes_len hx
          have ll := nodes_len hf
          have le : x.l.length + 1 ≤ l.length := by
            rw [pts.nodes, List.length_cons]
            have := List.Sublist.length_le (List.sublist_flatten_of_mem (List.mem_map.mpr ⟨x, mx, rfl⟩ : x.l ∈ ps.map (·.l)))
            omega
          refine ⟨x.f, x.v, x.l, rfl, hx3, ox, by omega, by omega, fun H4 q4 k4 hq4 => ?_⟩
          have d4 := k4.oth d2 fun _ _ _ z => by cases z
          have lt : ((ps.take i).map (·.l)).flatten.length ≤ l.length := by
            rw [pts.nodes, List.length_cons]
            have e : (ps.map (·.l)).flatten = ((ps.take i).map (·.l)).flatten ++ ((ps.drop i).map (·.l)).flatten := by rw [← List.flatten_append, ← List.map_append, List.take_append_drop]
            rw [e, List.length_append]
            omega
          refine ⟨D, q4, _, _, rfl, rfl, d4, hq4, Rd.small (by rw [List.length_cons]; omega), ?_⟩
          have ke : SeqC K c l (fun q => H q = none ∧ q ≠ D) H H4 := SeqC.trans (fun q hq => ⟨k2.free hq, fun e => by rw [e, d2] at hq; cases hq⟩) inj inj1 noN subx k2 k4
          refine ⟨⟨_, rfl⟩, ke.set nD fun q h => h.2, ?_⟩
          rw [upd_same, List.take_add_one, ep, Option.toList_some, List.map_append, List.flatten_append]
          simp
        · obtain ⟨⟨b, rfl⟩, k2, d2⟩ := z
          rw [List.length_map, List.take_length, ← pts.nodes] at d2
          walk_at "rd"
          have ha2 : ∃ fs', H' a = some (.ins (clsOf c g) dx fs') ∧ (∀ x, putF "_sequence" x fs' = putF "_sequence" x fs) ∧ fs'.length < 1000 := by
            rcases k2 a _ ha with h | ⟨_, C', dx', fs', q', lb, g', e, _, ns, fg, og', h, hq⟩
            · exact ⟨fs, h, fun _ => rfl, by have := b1.few; omega⟩
            · cases e
              exact ⟨_, h, fun x => putF_putF fs, by rw [len_putF' ns]; have := b1.few; omega⟩
          obtain ⟨fs', ha2, ef, fw⟩ := ha2
          refine ⟨a, _, dx, fs', rfl, ha2, (T.at_ g).cl, (T.at_ g).no "_sequence", fw, ?_⟩
          rw [ef]
          walk_at "rd"
          refine ⟨a, _, dx, _, _, rfl, upd_same, (T.at_ g).cl, (T.at_ g).no "_sequence", by rw [lookup_putF, if_pos rfl], ?_⟩
          have nDa : D ≠ a := fun e => by rw [e, ha] at nD; cases nD
          refine q _ D (fun b o e => ?_) (by rw [upd_ne nDa]; exact d2)
          by_cases hb : b = a
          · subst hb
            rw [ha] at e
            cases e
            exact .inr ⟨by rw [el]; exact List.mem_cons_self, _, _, fs, D, l, g, rfl, nD, ez, hf, og, upd_same, by rw [upd_ne nDa]; exact d2⟩
          · rw [upd_ne hb]
            rcases k2 b o e with h | ⟨hb2, C', dx', fs', q', lb, g', e, nq, ns, fg, og', h, hq⟩
            · exact .inl h
            · exact .inr ⟨hb2, C', dx', fs', q', lb, g', e, nq.1, ns, fg, og', h, by rw [upd_ne (fun e => by have := nq.1; rw [e, ha] at this; cases this)]; exact hq⟩
      · refine Rd.isF rfl ?_
        walk_at "rd"
        exact ⟨a, _, dx, fs, _, rfl, ha, (T.at_ g).cl, (T.at_ g).no "_sequence", ez, q H b SeqC.refl hb⟩
end
end K12

namespace K12
open PySem PySem.Spec PyProof.Rows L2
local macro_rules | `(tactic| walk_at "rd1") => `(tactic| first
  | (with_reducible refine Rd.seq ?_) | (with_reducible refine Rd.asg ?_) | (with_reducible refine Rd.ret ?_) | (with_reducible refine Rd.nxt ?_) | (with_reducible refine Rd.ifS ?_)
  | (with_reducible refine Rd.op ?_) | (with_reducible refine Rd.un ?_) | (with_reducible refine Rd.cb ?_) | (with_reducible refine Rd.cons ?_) | (with_reducible refine Rd.nil ?_) | (with_reducible refine Rd.ifx ?_)
  | (with_reducible refine Rd.test ?_) | (with_reducible refine Rd.testB ?_) | (with_reducible refine Rd.notT ?_) | (with_reducible refine Rd.isB ?_) | (with_reducible refine Rd.lst ?_) | (with_reducible refine Rd.tup ?_)
  | (with_reducible refine Rd.andV ?_) | (with_reducible refine Rd.orV ?_) | (with_reducible refine Rd.notV ?_) | (with_reducible refine Rd.andT ?_) | (with_reducible refine Rd.orT ?_) | (with_reducible refine Rd.chain ?_)
  | (with_reducible refine Rd.m0 ?_) | (with_reducible refine Rd.m1 ?_) | (with_reducible refine Rd.bm0 ?_) | (with_reducible refine Rd.bm ?_) | (with_reducible refine Rd.sl ?_) | (with_reducible refine Rd.part ?_) | (with_reducible refine Rd.part0 ?_) | (with_reducible refine Rd.isI ?_)
  | (with_reducible refine Rd.fmt ?_) | (with_reducible refine Rd.fmtRD ?_) | (with_reducible refine Rd.meth ?_) | (with_reducible refine makeG ?_) | (with_reducible refine Rd.prop ?_) | (with_reducible refine Rd.js ?_) | (with_reducible refine Rd.js0 ?_) | (with_reducible refine Rd.par ?_) | (with_reducible refine Rd.star ?_) | (with_reducible refine lcR1 ?_) | (with_reducible refine lcR2 ?_) | (with_reducible refine Rd.fld ?_) | (with_reducible refine Rd.sfld ?_) | (with_reducible refine Rd.expr ?_) | (with_reducible refine L2.isNR ?_) | (with_reducible refine L2.methI ?_) | (with_reducible refine Rd.forZ ?_)
  | (with_reducible refine Rd.forEA ?_) | (with_reducible refine Rd.forR1 ?_) | (with_reducible refine Rd.forR2 ?_) | (with_reducible refine Rd.forL ?_) | (with_reducible refine Rd.forT ?_)
  | (with_reducible refine Rd.call ?_) | (with_reducible refine Rd.asgG ?_) | (with_reducible refine Rd.gNm ?_) | (with_reducible refine Rd.gSb ?_) | (with_reducible refine Rd.gC ?_) | (with_reducible refine Rd.gN ?_)
  | ((with_reducible refine' Rd.var ?hv ?_); (case hv => exact rfl)) | (with_reducible refine Rd.c ?_) | (with_reducible refine Rd.i0 ?_) | (with_reducible refine Rd.neg ?_)
  | ((with_reducible refine' Rd.iC ?hc ?_); (case hc => first | (show (0 : Int) < _; decide) | exact ⟨by decide, by decide⟩ | exact ⟨by decide, by decide, by decide⟩ | exact .inl ⟨by decide, by decide⟩ | exact .inr ⟨by decide, by decide⟩ | exact .inl ⟨by omega, by omega⟩ | (show (0 : Int) < _; omega) | exact ⟨by omega, by omega⟩))
  | ((with_reducible refine' Rd.eqS ?hc ?_); (case hc => rfl)) | ((with_reducible refine' Rd.neS ?hc ?_); (case hc => rfl)))
local macro_rules | `(tactic| walk_at "rd") => `(tactic| repeat walk_at "rd1")
/-! ### another formula in the place of a node -/
def Fm.put : Fm → Nat → Fm → Fm
  | _, 0, g => g
  | .num n, _ + 1, _ => .num n
  | .ref w x, _ + 1, _ => .ref w x
  | .pair o l r, k + 1, g => if k < l.q.1 then .pair o (l.put k g) r else .pair o l (r.put (k - l.q.1) g)
  | .cho t s a b, k + 1, g => if k < t.q.1 then .cho (t.put k g) s a b else if k - t.q.1 < a.q.1 then .cho t s (a.put (k - t.q.1) g) b else .cho t s a (b.put (k - t.q.1 - a.q.1) g)
def Fm.at : Fm → Nat → Fm
  | f, 0 => f
  | .num n, _ + 1 => .num n
  | .ref w x, _ + 1 => .ref w x
  | .pair o l r, k + 1 => if k < l.q.1 then l.at k else r.at (k - l.q.1)
  | .cho t s a b, k + 1 => if k < t.q.1 then t.at k else if k - t.q.1 < a.q.1 then a.at (k - t.q.1) else b.at (k - t.q.1 - a.q.1)
theorem q_pos : ∀ f : Fm, 1 ≤ f.q.1
  | .num _ => Nat.le_refl 1
  | .ref _ _ => Nat.le_refl 1
  | .pair o l r => by rw [q_pair]; omega
  | .cho t s a b => by rw [q_cho]; omega
theorem put_q : ∀ (f : Fm) (k : Nat) (g : Fm), k < f.q.1 → (f.put k g).q.1 + (f.at k).q.1 = f.q.1 + g.q.1
  | f, 0, g, _ => by
    have e1 : f.put 0 g = g := by cases f <;> rfl
    have e2 : f.at 0 = f := by cases f <;> rfl
    rw [e1, e2]
    omega
  | .num n, k + 1, g, h => by
    have h : k + 1 < 1 := h
    omega
  | .ref w x, k + 1, g, h => by
    have h : k + 1 < 1 := h
    omega
  | .pair o l r, k + 1, g, h => by
    rw [q_pair] at h
    unfold Fm.put Fm.at
    by_cases c : k < l.q.1
    · rw [if_pos c, if_pos c, q_pair, q_pair]
      have := put_q l k g c
      omega
    · rw [if_neg c, if_neg c, q_pair, q_pair]
      have := put_q r (k - l.q.1) g (by omega)
      omega
  | .cho t s a b, k + 1, g, h => by
    rw [q_cho] at h
    unfold Fm.put Fm.at
    by_cases c : k < t.q.1
    · rw [if_pos c, if_pos c, q_cho, q_cho]
      have := put_q t k g c
      omega
    · rw [if_neg c, if_neg c]
      by_cases c2 : k - t.q.1 < a.q.1
      · rw [if_pos c2, if_pos c2, q_cho, q_cho]
        have := put_q a (k - t.q.1) g c2
        omega
      · rw [if_neg c2, if_neg c2, q_cho, q_cho]
        have := put_q b (k - t.q.1 - a.q.1) g (by omega)
        omega
theorem put_ok : ∀ (f : Fm) (k : Nat) (g : Fm), Okf f → Okf g → Okf (f.put k g)
  | f, 0, g, _, h => by
    have e1 : f.put 0 g = g := by cases f <;> rfl
    rw [e1]
    exact h
  | .num n, k + 1, g, h, _ => h
  | .ref w x, k + 1, g, h, _ => h
  | .pair o l r, k + 1, g, h, hg => by
    unfold Fm.put
    split
    · exact ⟨h.1, put_ok l _ g h.2.1 hg, h.2.2⟩
    · exact ⟨h.1, h.2.1, put_ok r _ g h.2.2 hg⟩
  | .cho t s a b, k + 1, g, h, hg => by
    unfold Fm.put
    split
    · exact ⟨h.1, put_ok t _ g h.2.1 hg, h.2.2.1, h.2.2.2⟩
    · split
      · exact ⟨h.1, h.2.1, put_ok a _ g h.2.2.1 hg, h.2.2.2⟩
      · exact ⟨h.1, h.2.1, h.2.2.1, put_ok b _ g h.2.2.2 hg⟩
/-- the node with this number -/
theorem FmAt.at_ {K : PySem.W.Frag} {c : Cs} {H : Hp} : ∀ {f : Fm} {v : V} {l : List V} {k : Nat}, FmAt K c H f v l → k < f.q.1 → ∃ u m, l[k]? = some u ∧ FmAt K c H (f.at k) u m
  | f, v, l, 0, h, _ => by
    obtain ⟨a, dx, fs, g, p, r, rfl, rfl, _⟩ := id h.obj
    have e : f.at 0 = f := by cases f <;> rfl
    rw [e]
    exact ⟨_, _, rfl, h⟩
  | .num n, v, l, k + 1, h, hk => by
    have hk : k + 1 < 1 := hk
    omega
  | .ref w x, v, l, k + 1, h, hk => by
    have hk : k + 1 < 1 := hk
    omega
  | .pair o f1 f2, v, l, k + 1, h, hk => by
    obtain ⟨v1, l1, v2, l2, rfl, t1, t2, _⟩ := id h
    have e1 := nodes_len t1
    have e2 := nodes_len t2
    rw [q_pair] at hk
    unfold Fm.at
    by_cases c : k < f1.q.1
    · obtain ⟨u, m, z, q⟩ := t1.at_ c
      rw [if_pos c]
      exact ⟨u, m, by rw [List.getElem?_cons_succ, List.getElem?_append_left (by omega)]; exact z, q⟩
    · obtain ⟨u, m, z, q⟩ := t2.at_ (k := k - f1.q.1) (by omega)
      rw [if_neg c]
      exact ⟨u, m, by rw [List.getElem?_cons_succ, List.getElem?_append_right (by omega), e1]; exact z, q⟩
  | .cho f1 s f2 f3, v, l, k + 1, h, hk => by
    obtain ⟨v1, l1, v2, l2, v3, l3, rfl, t1, t2, t3, _⟩ := id h
    have e1 := nodes_len t1
    have e2 := nodes_len t2
    have e3 := nodes_len t3
    rw [q_cho] at hk
    unfold Fm.at
    by_cases c : k < f1.q.1
    · obtain ⟨u, m, z, q⟩ := t1.at_ c
      rw [if_pos c]
      exact ⟨u, m, by rw [List.getElem?_cons_succ, List.getElem?_append_left (by omega)]; exact z, q⟩
    · rw [if_neg c]
      by_cases c2 : k - f1.q.1 < f2.q.1
      · obtain ⟨u, m, z, q⟩ := t2.at_ c2
        rw [if_pos c2]
        exact ⟨u, m, by rw [List.getElem?_cons_succ, List.getElem?_append_right (by omega), e1, List.getElem?_append_left (by omega)]; exact z, q⟩
      · obtain ⟨u, m, z, q⟩ := t3.at_ (k := k - f1.q.1 - f2.q.1) (by omega)
        rw [if_neg c2]
        exact ⟨u, m, by rw [List.getElem?_cons_succ, List.getElem?_append_right (by omega), e1, List.getElem?_append_right (by omega), e2]; exact z, q⟩
theorem Fits.put : ∀ {f : Fm} {k : Nat} {g : Fm}, Fits (f.put k g) → k < f.q.1 → True := fun _ _ => trivial
/-! ### len -/
abbrev sLenF : Stmt := sMeth iFormula 10
def spLenF (K : PySem.W.Frag) (c : Cs) : Sp := fun vs H Q _ => ∃ (f : Fm) (v : V) (l : List V), vs = [v] ∧ FmAt K c H f v l ∧ f.q.1 ≤ 1000 ∧ ∀ H', Same H H' → Q (.int (f.q.1 : Nat)) H'
section
variable {P : Program} {w : World} {K : PySem.W.Frag} {mg : Str → Option Value} {base : Heap} {c : Cs} {f : Addr} {fd : FuncData}
theorem scLenF : FnScope ["self"] ["self"] (defScope sLenF) := ⟨rfl, rfl, rfl, by decide +kernel, rfl, by decide +kernel, by decide +kernel⟩
theorem ok_lenF (F : FunD K "__len__" "Formula.__len__" (defArgs sLenF) (defBody sLenF) (defScope sLenF) [] [] f fd) (T : Cl K c) (gLen : mg "len" = none) (gRange : mg "range" = none) : FnOk P w K mg base CX0 1 f fd ["self"] (spLenF K c) := by
  refine F.ok scLenF (fun vs H Q E h => ?_) (fun cdv A outer s H vs Q E hr h => ?_)
  · obtain ⟨g, v, l, rfl, _⟩ := h
    rfl
  · obtain ⟨g, v, l, rfl, hf, few, q⟩ := h
    refine ⟨_, PSs.nox (pss_one (ps_ret (pe_callB call_lenRng rfl gLen boot_len (pa_cons (pe_callTy cr_range1 rfl gRange (by decide +kernel) (pa_cons (pe_fld (pv 0) rfl) pa_nil)) pa_nil)))), ?_⟩
    obtain ⟨a, dx, fs, g1, p, r, rfl, el, ha, b1⟩ := id hf.obj
    walk_at "rd"
    refine ⟨a, _, dx, fs, _, rfl, ha, (T.at_ g).cl, (T.at_ g).no "_many", b1.mn, ?_⟩
    walk_at "rd"
    refine ⟨_, rfl, fun p np => ?_⟩
    walk_at "rd"
    exact ⟨p, g.q.1, rfl, upd_same, by omega, q _ (same_new np)⟩
end
/-! ### _of_parts -/
def spOf (K : PySem.W.Frag) (c : Cs) : Option (Fin 4) → Sp
  | some o => fun vs H Q _ => ∃ (v : V) (D : Addr) (f1 : Fm) (u1 : V) (l1 : List V) (f2 : Fm) (u2 : V) (l2 : List V), vs = [v, .ref D] ∧ H D = some (.lst [u1, u2]) ∧ FmAt K c H f1 u1 l1 ∧ FmAt K c H f2 u2 l2 ∧ Fits (.pair o.1 f1 f2) ∧ ∀ u H' l', New K c H H' (.pair o.1 f1 f2) u l' → Q u H'
  | none => fun vs H Q _ => ∃ (t : Fm) (s : List Nat) (a b : Fm) (v : V) (l : List V) (D : Addr) (f1 : Fm) (u1 : V) (l1 : List V) (f2 : Fm) (u2 : V) (l2 : List V) (f3 : Fm) (u3 : V) (l3 : List V), vs = [v, .ref D] ∧ FmAt K c H (.cho t s a b) v l ∧ Asc s ∧ H D = some (.lst [u1, u2, u3]) ∧
      FmAt K c H f1 u1 l1 ∧ FmAt K c H f2 u2 l2 ∧ FmAt K c H f3 u3 l3 ∧ Fits (.cho f1 s f2 f3) ∧ ∀ u H' l', New K c H H' (.cho f1 s f2 f3) u l' → Q u H'
/-- the classes whose formulas have parts -/
def ofCls (c : Cs) : Option (Fin 4) → Addr
  | none => c.cho
  | some i => c.pair i.1
section
variable {P : Program} {w : World} {K : PySem.W.Frag} {mg : Str → Option Value} {base : Heap} {c : Cs} {f : Addr} {fd : FuncData}
abbrev sOfPlus : Stmt := sMeth iPlus 3
theorem scOfPlus : FnScope ["self", "parts"] ["self", "parts"] (defScope sOfPlus) := ⟨rfl, rfl, rfl, by decide +kernel, rfl, by decide +kernel, by decide +kernel⟩
theorem ok_ofPlus (F : FunD K "_of_parts" "Plus._of_parts" (defArgs sOfPlus) (defBody sOfPlus) (defScope sOfPlus) [] [] f fd) (M : Mks P w K mg base c) : FnOk P w K mg base CX0 5 f fd ["self", "parts"] (spOf K c (some ⟨0, by decide⟩)) := by
  obtain ⟨fp, fdp, cp⟩ := M.pair 0 (by decide)
  refine F.ok scOfPlus (fun vs H Q E h => ?_) (fun cdv A outer s H vs Q E hr h => ?_)
  · obtain ⟨v, D, f1, u1, l1, f2, u2, l2, rfl, _⟩ := h
    rfl
  · obtain ⟨v, D, f1, u1, l1, f2, u2, l2, rfl, hD, h1, h2, fit, q⟩ := h
    refine ⟨_, PSs.nox (pss_one (ps_ret (pe_make cp.mkr cp.ok hr rfl cp.g cp.b .nil pass0 (pa_cons (pe_ix ix_list (pv 1) pe_int (fun _ _ => rfl)) (pa_cons (pe_ix ix_list (pv 1) pe_int (fun _ _ => rfl)) pa_nil))))), ?_⟩
    walk_at "rd"
    refine Rd.ixL (SqL.of hD) rfl ?_
    walk_at "rd"
    refine Rd.ixL (SqL.of hD) rfl ?_
    walk_at "rd"
    exact mkPair h1 h2 fit.1 fit.2 fun v H' z => q v H' _ z
abbrev sOfLeast : Stmt := sMeth iLeast 3
theorem scOfLeast : FnScope ["self", "parts"] ["self", "parts"] (defScope sOfLeast) := ⟨rfl, rfl, rfl, by decide +kernel, rfl, by decide +kernel, by decide +kernel⟩
theorem ok_ofLeast (F : FunD K "_of_parts" "Least._of_parts" (defArgs sOfLeast) (defBody sOfLeast) (defScope sOfLeast) [] [] f fd) (M : Mks P w K mg base c) : FnOk P w K mg base CX0 5 f fd ["self", "parts"] (spOf K c (some ⟨1, by decide⟩)) := by
  obtain ⟨fp, fdp, cp⟩ := M.pair 1 (by decide)
  refine F.ok scOfLeast (fun vs H Q E h => ?_) (fun cdv A outer s H vs Q E hr h => ?_)
  · obtain ⟨v, D, f1, u1, l1, f2, u2, l2, rfl, _⟩ := h
    rfl
  · obtain ⟨v, D, f1, u1, l1, f2, u2, l2, rfl, hD, h1, h2, fit, q⟩ := h
    refine ⟨_, PSs.nox (pss_one (ps_ret (pe_make cp.mkr cp.ok hr rfl cp.g cp.b .nil pass0 (pa_cons (pe_ix ix_list (pv 1) pe_int (fun _ _ => rfl)) (pa_cons (pe_ix ix_list (pv 1) pe_int (fun _ _ => rfl)) pa_nil))))), ?_⟩
    walk_at "rd"
    refine Rd.ixL (SqL.of hD) rfl ?_
    walk_at "rd"
    refine Rd.ixL (SqL.of hD) rfl ?_
    walk_at "rd"
    exact mkPair h1 h2 fit.1 fit.2 fun v H' z => q v H' _ z
abbrev sOfMost : Stmt := sMeth iMost 3
theorem scOfMost : FnScope ["self", "parts"] ["self", "parts"] (defScope sOfMost) := ⟨rfl, rfl, rfl, by decide +kernel, rfl, by decide +kernel, by decide +kernel⟩
theorem ok_ofMost (F : FunD K "_of_parts" "Most._of_parts" (defArgs sOfMost) (defBody sOfMost) (defScope sOfMost) [] [] f fd) (M : Mks P w K mg base c) : FnOk P w K mg base CX0 5 f fd ["self", "parts"] (spOf K c (some ⟨2, by decide⟩)) := by
  obtain ⟨fp, fdp, cp⟩ := M.pair 2 (by decide)
  refine F.ok scOfMost (fun vs H Q E h => ?_) (fun cdv A outer s H vs Q E hr h => ?_)
  · obtain ⟨v, D, f1, u1, l1, f2, u2, l2, rfl, _⟩ := h
    rfl
  · obtain ⟨v, D, f1, u1, l1, f2, u2, l2, rfl, hD, h1, h2, fit, q⟩ := h
    refine ⟨_, PSs.nox (pss_one (ps_ret (pe_make cp.mkr cp.ok hr rfl cp.g cp.b .nil pass0 (pa_cons (pe_ix ix_list (pv 1) pe_int (fun _ _ => rfl)) (pa_cons (pe_ix ix_list (pv 1) pe_int (fun _ _ => rfl)) pa_nil))))), ?_⟩
    walk_at "rd"
    refine Rd.ixL (SqL.of hD) rfl ?_
    walk_at "rd"
    refine Rd.ixL (SqL.of hD) rfl ?_
    walk_at "rd"
    exact mkPair h1 h2 fit.1 fit.2 fun v H' z => q v H' _ z
abbrev sOfSame : Stmt := sMeth iSame 3
theorem scOfSame : FnScope ["self", "parts"] ["self", "parts"] (defScope sOfSame) := ⟨rfl, rfl, rfl, by decide +kernel, rfl, by decide +kernel, by decide +kernel⟩
theorem ok_ofSame (F : FunD K "_of_parts" "Same._of_parts" (defArgs sOfSame) (defBody sOfSame) (defScope sOfSame) [] [] f fd) (M : Mks P w K mg base c) : FnOk P w K mg base CX0 5 f fd ["self", "parts"] (spOf K c (some ⟨3, by decide⟩)) := by
  obtain ⟨fp, fdp, cp⟩ := M.pair 3 (by decide)
  refine F.ok scOfSame (fun vs H Q E h => ?_) (fun cdv A outer s H vs Q E hr h => ?_)
  · obtain ⟨v, D, f1, u1, l1, f2, u2, l2, rfl, _⟩ := h
    rfl
  · obtain ⟨v, D, f1, u1, l1, f2, u2, l2, rfl, hD, h1, h2, fit, q⟩ := h
    refine ⟨_, PSs.nox (pss_one (ps_ret (pe_make cp.mkr cp.ok hr rfl cp.g cp.b .nil pass0 (pa_cons (pe_ix ix_list (pv 1) pe_int (fun _ _ => rfl)) (pa_cons (pe_ix ix_list (pv 1) pe_int (fun _ _ => rfl)) pa_nil))))), ?_⟩
    walk_at "rd"
    refine Rd.ixL (SqL.of hD) rfl ?_
    walk_at "rd"
    refine Rd.ixL (SqL.of hD) rfl ?_
    walk_at "rd"
    exact mkPair h1 h2 fit.1 fit.2 fun v H' z => q v H' _ z
abbrev sOfChoice : Stmt := sMeth iChoice 4
theorem scOfChoice : FnScope ["self", "parts"] ["self", "parts"] (defScope sOfChoice) := ⟨rfl, rfl, rfl, by decide +kernel, rfl, by decide +kernel, by decide +kernel⟩
theorem ok_ofChoice (F : FunD K "_of_parts" "Choice._of_parts" (defArgs sOfChoice) (defBody sOfChoice) (defScope sOfChoice) [] [] f fd) (T : Cl K c) (M : Mks P w K mg base c) : FnOk P w K mg base CX0 5 f fd ["self", "parts"] (spOf K c none) := by
  obtain ⟨fp, fdp, cp⟩ := M.cho
  refine F.ok scOfChoice (fun vs H Q E h => ?_) (fun cdv A outer s H vs Q E hr h => ?_)
  · obtain ⟨t, s, a, b, v, l, D, f1, u1, l1, f2, u2, l2, f3, u3, l3, rfl, _⟩ := h
    rfl
  · obtain ⟨t, s, a, b, v, l, D, f1, u1, l1, f2, u2, l2, f3, u3, l3, rfl, hf, asc, hD, h1, h2, h3, fit, q⟩ := h
    refine ⟨_, PSs.nox (pss_one (ps_ret (pe_make cp.mkr cp.ok hr rfl cp.g cp.b .nil pass0 (pa_cons (pe_ix ix_list (pv 1) pe_int (fun _ _ => rfl)) (pa_cons (pe_fld (pv 0) rfl) (pa_cons (pe_ix ix_list (pv 1) pe_int (fun _ _ => rfl)) (pa_cons (pe_ix ix_list (pv 1) pe_int (fun _ _ => rfl)) pa_nil))))))), ?_⟩
    obtain ⟨v1, m1, v2, m2, v3, m3, rfl, _, _, _, ad, dx, fs, g, p, tt, rfl, ha, b1, _, _, st, _, lc, _⟩ := id hf
    walk_at "rd"
    refine Rd.ixL (SqL.of hD) rfl ?_
    walk_at "rd"
    refine ⟨ad, _, dx, fs, _, rfl, ha, T.cho.cl, T.cho.no "chosen", lc, ?_⟩
    walk_at "rd"
    refine Rd.ixL (SqL.of hD) rfl ?_
    walk_at "rd"
    refine Rd.ixL (SqL.of hD) rfl ?_
    walk_at "rd"
    exact mkCho h1 h2 h3 (.inr st) asc fit.1 fit.2 fun v H' z => q v H' _ z
end
end K12

namespace K12
open PySem PySem.Spec PyProof.Rows L2
local macro_rules | `(tactic| walk_at "rd1") => `(tactic| first
  | (with_reducible refine Rd.seq ?_) | (with_reducible refine Rd.asg ?_) | (with_reducible refine Rd.ret ?_) | (with_reducible refine Rd.nxt ?_) | (with_reducible refine Rd.ifS ?_)
  | (with_reducible refine Rd.op ?_) | (with_reducible refine Rd.un ?_) | (with_reducible refine Rd.cb ?_) | (with_reducible refine Rd.cons ?_) | (with_reducible refine Rd.nil ?_) | (with_reducible refine Rd.ifx ?_)
  | (with_reducible refine Rd.test ?_) | (with_reducible refine Rd.testB ?_) | (with_reducible refine Rd.notT ?_) | (with_reducible refine Rd.isB ?_) | (with_reducible refine Rd.lst ?_) | (with_reducible refine Rd.tup ?_)
  | (with_reducible refine Rd.andV ?_) | (with_reducible refine Rd.orV ?_) | (with_reducible refine Rd.notV ?_) | (with_reducible refine Rd.andT ?_) | (with_reducible refine Rd.orT ?_) | (with_reducible refine Rd.chain ?_)
  | (with_reducible refine Rd.m0 ?_) | (with_reducible refine Rd.m1 ?_) | (with_reducible refine Rd.bm0 ?_) | (with_reducible refine Rd.bm ?_) | (with_reducible refine Rd.sl ?_) | (with_reducible refine Rd.part ?_) | (with_reducible refine Rd.part0 ?_) | (with_reducible refine Rd.isI ?_)
  | (with_reducible refine Rd.fmt ?_) | (with_reducible refine Rd.fmtRD ?_) | (with_reducible refine Rd.meth ?_) | (with_reducible refine makeG ?_) | (with_reducible refine Rd.prop ?_) | (with_reducible refine Rd.js ?_) | (with_reducible refine Rd.js0 ?_) | (with_reducible refine Rd.par ?_) | (with_reducible refine Rd.star ?_) | (with_reducible refine lcR1 ?_) | (with_reducible refine lcR2 ?_) | (with_reducible refine Rd.fld ?_) | (with_reducible refine Rd.sfld ?_) | (with_reducible refine Rd.expr ?_) | (with_reducible refine L2.isNR ?_) | (with_reducible refine L2.methI ?_) | (with_reducible refine Rd.forZ ?_)
  | (with_reducible refine Rd.forEA ?_) | (with_reducible refine Rd.forR1 ?_) | (with_reducible refine Rd.forR2 ?_) | (with_reducible refine Rd.forL ?_) | (with_reducible refine Rd.forT ?_)
  | (with_reducible refine Rd.call ?_) | (with_reducible refine Rd.asgG ?_) | (with_reducible refine Rd.gNm ?_) | (with_reducible refine Rd.gSb ?_) | (with_reducible refine Rd.gC ?_) | (with_reducible refine Rd.gN ?_)
  | ((with_reducible refine' Rd.var ?hv ?_); (case hv => exact rfl)) | (with_reducible refine Rd.c ?_) | (with_reducible refine Rd.i0 ?_) | (with_reducible refine Rd.neg ?_)
  | ((with_reducible refine' Rd.iC ?hc ?_); (case hc => first | (show (0 : Int) < _; decide) | exact ⟨by decide, by decide⟩ | exact ⟨by decide, by decide, by decide⟩ | exact .inl ⟨by decide, by decide⟩ | exact .inr ⟨by decide, by decide⟩ | exact .inl ⟨by omega, by omega⟩ | (show (0 : Int) < _; omega) | exact ⟨by omega, by omega⟩))
  | ((with_reducible refine' Rd.eqS ?hc ?_); (case hc => rfl)) | ((with_reducible refine' Rd.neS ?hc ?_); (case hc => rfl)))
local macro_rules | `(tactic| walk_at "rd") => `(tactic| repeat walk_at "rd1")
/-- a list that keeps no formula's nodes may change -/
theorem bs_list {H : Hp} {D : Addr} {us us' : List V} (hD : H D = some (.lst us)) (hu : us = [] ∨ ∃ a r C dx fs, us = .ref a :: r ∧ H a = some (.ins C dx fs) ∧ fs.lookup ("_sequence" : Str) ≠ some (.ref D)) {fs : List (Str × V)} {name : Str} {g p a C dx : Addr} {q : Nat × Nat} {r : List V}
    (ha : H a = some (.ins C dx fs)) (h : Bs H fs name g p q (.ref a :: r)) : Bs (upd H D (.lst us')) fs name g p q (.ref a :: r) := by
  refine ⟨h.nm, h.gv, h.pt, h.mn, h.dp, ?_, h.few, h.ks⟩
  obtain ⟨z, e, w⟩ := h.sq
  refine ⟨z, e, w.imp id fun ⟨b, e2, w⟩ => ⟨b, e2, ?_⟩⟩
  by_cases hb : b = D
  · subst hb
    rw [hD] at w
    have w : us = .ref a :: r := by cases w; rfl
    rcases hu with hu | ⟨a', r', C', dx', fs', hu, ha', hs⟩
    · rw [hu] at w; cases w
    · rw [hu] at w
      injection w with w1 w2
      injection w1 with w1
      subst w1
      obtain rfl := ins_inj ha ha'
      exact absurd (e.trans (congrArg some e2)) hs
  · rw [upd_ne hb]; exact w
theorem ins_list {H : Hp} {D a C dx : Addr} {fs : List (Str × V)} {us : List V} {o : HO} (hD : H D = some (.lst us)) (ha : H a = some (.ins C dx fs)) : upd H D o a = some (.ins C dx fs) := by
  rw [upd_ne (fun e => by rw [e, hD] at ha; cases ha)]
  exact ha
theorem sqt_list {K : PySem.W.Frag} {H : Hp} {D a : Addr} {us xs : List V} {o : HO} (hD : H D = some (.lst us)) (h : SqT K H a xs) : SqT K (upd H D o) a xs := by
  rcases h with (h | ⟨o, h⟩) | h
  · exact .inl (.inl (by rw [upd_ne (fun e => by rw [e, hD] at h; cases h)]; exact h))
  · exact .inl (.inr ⟨o, by rw [upd_ne (fun e => by rw [e, hD] at h; cases h)]; exact h⟩)
  · exact .inr h
theorem FmAt.list {K : PySem.W.Frag} {c : Cs} {H : Hp} {D : Addr} {us us' : List V} (hD : H D = some (.lst us)) (hu : us = [] ∨ ∃ a r C dx fs, us = .ref a :: r ∧ H a = some (.ins C dx fs) ∧ fs.lookup ("_sequence" : Str) ≠ some (.ref D)) :
    ∀ {f : Fm} {v : V} {l : List V}, FmAt K c H f v l → FmAt K c (upd H D (.lst us')) f v l
  | .num n, v, l, h => by
    obtain ⟨rfl, hn, a, dx, fs, g, p, rfl, h1, h2, h3, h4, h5⟩ := h
    exact ⟨rfl, hn, a, dx, fs, g, p, rfl, ins_list hD h1, bs_list hD hu h1 h2, sqt_list hD h3, sqt_list hD h4, h5⟩
  | .ref w x, v, l, h => by
    obtain ⟨rfl, a, dx, fs, g, p, rfl, h1, h2, h3, h4, h5⟩ := h
    exact ⟨rfl, a, dx, fs, g, p, rfl, ins_list hD h1, bs_list hD hu h1 h2, sqt_list hD h3, sqt_list hD h4, h5⟩
  | .pair o f1 f2, v, l, h => by
    obtain ⟨v1, l1, v2, l2, rfl, t1, t2, a, dx, fs, g, p, rfl, h1, h2, h3, h4, h5⟩ := h
    exact ⟨v1, l1, v2, l2, rfl, FmAt.list hD hu t1, FmAt.list hD hu t2, a, dx, fs, g, p, rfl, ins_list hD h1, bs_list hD hu h1 h2, sqt_list hD h3, sqt_list hD h4, h5⟩
  | .cho f1 s f2 f3, v, l, h => by
    obtain ⟨v1, l1, v2, l2, v3, l3, rfl, t1, t2, t3, a, dx, fs, g, p, t, rfl, h1, h2, h3, h4, h5, h6⟩ := h
    exact ⟨v1, l1, v2, l2, v3, l3, rfl, FmAt.list hD hu t1, FmAt.list hD hu t2, FmAt.list hD hu t3, a, dx, fs, g, p, t, rfl, ins_list hD h1, bs_list hD hu h1 h2, sqt_list hD h3, sqt_list hD h4, sqt_list hD h5, h6⟩
/-- the object v keeps no nodes at D -/
def NoD (H : Hp) (D : Addr) (v : V) : Prop := ∃ a C dx fs, v = .ref a ∧ H a = some (.ins C dx fs) ∧ fs.lookup ("_sequence" : Str) ≠ some (.ref D)
theorem NoD.same {H H' : Hp} {D : Addr} {v : V} (h : NoD H D v) (s : Same H H') : NoD H' D v := by
  obtain ⟨a, C, dx, fs, e, ha, n⟩ := h
  exact ⟨a, C, dx, fs, e, s _ _ ha, n⟩
theorem SqNon.noD {H : Hp} {D : Addr} {v : V} (h : SqNon H v) : NoD H D v := by
  obtain ⟨a, C, dx, fs, e, ha, n⟩ := h
  exact ⟨a, C, dx, fs, e, ha, fun z => by rw [n] at z; cases z⟩
theorem FmAt.noD {K : PySem.W.Frag} {c : Cs} {H : Hp} {D : Addr} {f : Fm} {v : V} {l : List V} (h : FmAt K c H f v l) (hD : H D = none) : NoD H D v := by
  obtain ⟨a, dx, fs, g, p, r, rfl, _, ha, b⟩ := h.obj
  refine ⟨a, _, dx, fs, rfl, ha, fun z => ?_⟩
  obtain ⟨y, e, w⟩ := b.sq
  rw [e] at z
  cases z
  rcases w with w | ⟨d, e, w⟩
  · cases w
  · cases e
    rw [hD] at w
    cases w
/-- the part that stands at this place behind the change -/
def newF (k : Nat) (g : Fm) (N : Nat) (f : Fm) : Fm := if N ≤ k ∧ k < N + f.q.1 then f.put (k - N) g else f
def newPart (ps : List Pt) (k : Nat) (g : Fm) (i : Nat) (x : Pt) : Fm := newF k g (fmN ((ps.take i).map (·.f.q))) x.f
theorem put_pair {o : Nat} {l r g : Fm} {k : Nat} (h0 : k ≠ 0) (h : k < (Fm.pair o l r).q.1) : (Fm.pair o l r).put k g = .pair o (newF k g 1 l) (newF k g (1 + l.q.1) r) := by
  rw [q_pair] at h
  cases k with
  | zero => exact absurd rfl h0
  | succ k =>
    unfold Fm.put newF
    by_cases c : k < l.q.1
    · rw [if_pos c, if_pos ⟨by omega, by omega⟩, if_neg (by omega)]
      rfl
    · rw [if_neg c, if_neg (by omega), if_pos ⟨by omega, by omega⟩]
      rw [show k + 1 - (1 + l.q.1) = k - l.q.1 by omega]
theorem put_cho {t a b g : Fm} {s : List Nat} {k : Nat} (h0 : k ≠ 0) (h : k < (Fm.cho t s a b).q.1) : (Fm.cho t s a b).put k g = .cho (newF k g 1 t) s (newF k g (1 + t.q.1) a) (newF k g (1 + t.q.1 + a.q.1) b) := by
  rw [q_cho] at h
  cases k with
  | zero => exact absurd rfl h0
  | succ k =>
    unfold Fm.put newF
    by_cases c : k < t.q.1
    · rw [if_pos c, if_pos ⟨by omega, by omega⟩, if_neg (by omega), if_neg (by omega)]
      rfl
    · rw [if_neg c, if_neg (show ¬ (1 ≤ k + 1 ∧ k + 1 < 1 + t.q.1) by omega)]
      by_cases c2 : k - t.q.1 < a.q.1
      · rw [if_pos c2, if_pos (show 1 + t.q.1 ≤ k + 1 ∧ k + 1 < 1 + t.q.1 + a.q.1 by omega), if_neg (show ¬ (1 + t.q.1 + a.q.1 ≤ k + 1 ∧ k + 1 < 1 + t.q.1 + a.q.1 + b.q.1) by omega), show k + 1 - (1 + t.q.1) = k - t.q.1 by omega]
      · rw [if_neg c2, if_neg (show ¬ (1 + t.q.1 ≤ k + 1 ∧ k + 1 < 1 + t.q.1 + a.q.1) by omega), if_pos ⟨by omega, by omega⟩, show k + 1 - (1 + t.q.1 + a.q.1) = k - t.q.1 - a.q.1 by omega]
theorem PtsAt.fits {K : PySem.W.Frag} {c : Cs} {H : Hp} {f g : Fm} {v : V} {l : List V} {p : Addr} {ps : List Pt} {k : Nat} (h : PtsAt K c H f v l p ps) (h0 : k ≠ 0) (hk : k < f.q.1) (fit : Fits (f.put k g)) {i : Nat} {x : Pt} (hx : ps[i]? = some x) : Fits (newPart ps k g i x) := by
  have sh := h.shape
  cases f with
  | num n =>
    have hk : k < 1 := hk
    omega
  | ref w y =>
    have hk : k < 1 := hk
    omega
  | pair o a b =>
    rw [put_pair h0 hk] at fit
    obtain ⟨z1, z2⟩ := fit.pair
    match ps, sh, i, hx with
    | [p1, p2], sh, 0, hx =>
      simp only [partsOf, List.map_cons, List.map_nil, List.cons.injEq, and_true] at sh
      cases hx
      rw [← sh.1] at z1
      exact z1
    | [p1, p2], sh, 1, hx =>
      simp only [partsOf, List.map_cons, List.map_nil, List.cons.injEq, and_true] at sh
      cases hx
      rw [← sh.1, ← sh.2] at z2
      exact z2
    | [p1, p2], sh, i + 2, hx => simp at hx
    | [], sh, _, _ => simp [partsOf] at sh
    | [p1], sh, _, _ => simp [partsOf] at sh
    | p1 :: p2 :: p3 :: r, sh, _, _ => simp [partsOf] at sh
  | cho t s a b =>
    rw [put_cho h0 hk] at fit
    obtain ⟨z1, z2, z3⟩ := fit.cho
    match ps, sh, i, hx with
    | [p1, p2, p3], sh, 0, hx =>
      simp only [partsOf, List.map_cons, List.map_nil, List.cons.injEq, and_true] at sh
      cases hx
      rw [← sh.1] at z1
      exact z1
    | [p1, p2, p3], sh, 1, hx =>
      simp only [partsOf, List.map_cons, List.map_nil, List.cons.injEq, and_true] at sh
      cases hx
      rw [← sh.1, ← sh.2.1] at z2
      exact z2
    | [p1, p2, p3], sh, 2, hx =>
      simp only [partsOf, List.map_cons, List.map_nil, List.cons.injEq, and_true] at sh
      cases hx
      rw [← sh.1, ← sh.2.1, ← sh.2.2] at z3
      exact z3
    | [p1, p2, p3], sh, i + 3, hx => simp at hx
    | [], sh, _, _ => simp [partsOf] at sh
    | [p1], sh, _, _ => simp [partsOf] at sh
    | [p1, p2], sh, _, _ => simp [partsOf] at sh
    | p1 :: p2 :: p3 :: p4 :: r, sh, _, _ => simp [partsOf] at sh
abbrev sWith : Stmt := sMeth iFormula 17
def spWith (K : PySem.W.Frag) (c : Cs) (n : Nat) : Sp := fun vs H Q _ => ∃ (f : Fm) (v : V) (l : List V) (k : Nat) (g : Fm) (w : V) (m : List V), vs = [v, .int (k : Nat), w] ∧ FmAt K c H f v l ∧ Okf f ∧ f.ht ≤ n ∧ FmAt K c H g w m ∧ k < f.q.1 ∧ f.q.1 ≤ 1000 ∧ Fits (f.put k g) ∧
  ∀ u H' l', Same H H' → FmAt K c H' (f.put k g) u l' → (u = w ∨ SqNon H' u) → Q u H'
theorem _root_.Rd.small' {n : Nat} (h : n < 100000) : n < sizeLine := Nat.lt_of_lt_of_le h (by decide)
section
variable {P : Program} {w : World} {K : PySem.W.Frag} {mg : Str → Option Value} {base : Heap} {c : Cs} {f : Addr} {fd : FuncData} {fO : Option (Fin 4) → Addr} {fdO : Option (Fin 4) → FuncData}
theorem scWith : FnScope ["self", "number", "formula", "parts", "first", "part", "inside"] ["self", "number", "formula"] (defScope sWith) := ⟨rfl, rfl, rfl, by decide +kernel, rfl, by decide +kernel, by decide +kernel⟩
theorem ok_with (F : FunD K "_with_node" "Formula._with_node" (defArgs sWith) (defBody sWith) (defScope sWith) [] [] f fd) (T : Cl K c) (m : ∀ g, Meth K (clsOf c g) "_with_node" f)
    (mO : ∀ i, Meth K (ofCls c i) "_of_parts" (fO i)) (GO : ∀ i, FnOk P w K mg base CX0 5 (fO i) (fdO i) ["self", "parts"] (spOf K c i)) (bO : ∀ i, Binds K (fdO i) ["self", "parts"] []) : ∀ n, FnOk P w K mg base CX0 (n + 6) f fd ["self", "number", "formula"] (spWith K c n) := by
  have bF : Binds K fd ["self", "number", "formula"] [] := F.bindsN fun _ _ _ _ _ _ us hl => match us, hl with | [_, _, _], _ => rfl
  have nd := scWith.nd
  have clO : ∀ i, Cls K (ofCls c i) := fun i => match i with
    | none => T.cho.cl
    | some i => (T.pair i.1).cl
  intro n
  induction n with
  | zero =>
    refine F.ok scWith (fun vs H Q E h => ?_) (fun cdv A outer s H vs Q E hr h => ?_)
    · obtain ⟨g, v, l, k, g2, w2, m2, rfl, _⟩ := h
      rfl
    · obtain ⟨g, v, l, k, g2, w2, m2, rfl, _, _, ht, _⟩ := h
      cases g <;> simp [Fm.ht] at ht
  | succ n ih =>
    refine F.ok scWith (fun vs H Q E h => ?_) (fun cdv A outer s H vs Q E hr h => ?_)
    · obtain ⟨g, v, l, k, g2, w2, m2, rfl, _⟩ := h
      rfl
    · obtain ⟨g, v, l, k, g2, w2, m2, rfl, hf, og, ht, hg2, hk, few, fit, q⟩ := h
      have r5 := hr.mono (show 5 ≤ n + 6 by omega)
      refine ⟨_, PSs.nox (pss_cons (ps_if (pt_cmpR op_eq (pv 1) pe_int (nomark _)) (pss_one (ps_ret (pv 2))) pss_nil)
        (pss_cons (ps_set (i := 3) nd rfl (Or.inl rfl) (pe_lst pa_nil)) (pss_cons (ps_set (i := 4) nd rfl (Or.inl rfl) pe_int)
        (pss_cons (ps_for PassesOwn.never rfl (pi_tup (pe_fld (pv 0) rfl)) (pg_name (i := 5) nd rfl (Or.inl rfl))
          (pss_cons (ps_set (i := 6) nd rfl (Or.inl rfl) (pe_chain op_le op_lt (pv 4) (pv 1) (pe_op op_add (pv 4) (pe_fld (pv 5) rfl))))
          (pss_cons (ps_expr (pe_bm PySem.F.plainAttrs_list PySem.F.slot_list_append PySem.F.type_list_append mt_append (pv 3) (pa_cons
            (pe_ifExp (pt_val (pv 6)) (pe_methI (ι := Fm) (C := clsOf c) (f := fun _ => f) (fd := fun _ => fd) (sp := fun _ => spWith K c n) (pv 5) (fun i => (T.at_ i).cl) m (fun _ => ih) hr (fun _ => bF) .nil pass0 (pa_cons (pe_op op_sub (pv 1) (pv 4)) (pa_cons (pv 2) pa_nil))) (pv 5)) pa_nil)))
          (pss_one (ps_set (i := 4) nd rfl (Or.inl rfl) (pe_op op_add (pv 4) (pe_fld (pv 5) rfl)))))))
        (pss_one (ps_ret (pe_methI (ι := Option (Fin 4)) (C := ofCls c) (f := fO) (fd := fdO) (sp := spOf K c) (pv 0) clO mO GO r5 bO .nil pass0 (pa_cons (pv 3) pa_nil)))))))), ?_⟩
      obtain ⟨a, dx, fs, g1, p, r, rfl, el, ha, b1⟩ := id hf.obj
      obtain ⟨ps, pts⟩ := hf.parts og ha b1.pt
      walk_at "rd"
      refine Rd.ifB (fun z => ?_) (fun z => ?_)
      · have z : k = 0 := by have := V.int.inj (of_decide_eq_true z); omega
        subst z
        walk_at "rd"
        have e1 : g.put 0 g2 = g2 := by cases g <;> rfl
        rw [e1] at q
        exact q _ H _ (Same.refl _) hg2 (.inl rfl)
      have kz : k ≠ 0 := fun e => of_decide_eq_false z (congrArg V.int (by omega))
      walk_at "rd"
      refine ⟨Rd.small (by show 0 ≤ 100000; decide), fun D nD => ?_⟩
      have sD := same_new (o := HO.lst ([])) nD
      have tD := upd_same (H := H) (a := D) (o := HO.lst ([]))
      generalize upd H D (HO.lst ([])) = H1 at sD tD ⊢
      walk_at "rd"
      refine ⟨a, _, dx, fs, _, rfl, sD _ _ ha, (T.at_ g).cl, (T.at_ g).no "_parts", b1.pt, p, rfl, ⟨_, pts.at_.ext sD⟩, ?_⟩
      refine for_it walk_tup (fun i σ H' => (∃ b d, σ = [some (.ref a), some (.int (k : Nat)), some w2, some (.ref D), some (.int (fmN ((ps.take i).map (·.f.q)) : Nat)), b, d]) ∧ Same H H' ∧ ∃ us, H' D = some (.lst us) ∧ us.length = min i ps.length ∧
          (∀ (j : Nat) u, us[j]? = some u → NoD H' D u ∧ ∃ x m, ps[j]? = some x ∧ FmAt K c H' (newPart ps k g2 j x) u m)) ⟨⟨_, _, rfl⟩, sD, [], tD, by simp, fun j u e => by simp at e⟩ (fun i σ H' _ z => pts.at_.ext z.2.1) (fun i v σ H2 H3 hi hy z => ?_) (fun σ H' z => ?_)
      · obtain ⟨⟨b, d, rfl⟩, s2, us, d2, ul, at_⟩ := hy
        obtain ⟨rfl, ev⟩ := z
        rw [List.getElem?_map] at ev
        cases ep : ps[i]? with
        | none => rw [ep] at ev; cases ev
        | some x =>
        rw [ep] at ev
        have ev : x.v = v := Option.some.inj ev
        subst ev
        have mx : x ∈ ps := List.mem_of_getElem? ep
        have hi2 : i < ps.length := (List.getElem?_eq_some_iff.mp ep).1
        rw [Nat.min_eq_left (Nat.le_of_lt hi2)] at ul
        obtain ⟨hx, ox, hx2⟩ := pts.all x mx
        have hx3 := hx.kp (kp_same s2)
        obtain ⟨a', dx', fs', g1', p', r', ev', _, ha', b1'⟩ := id hx3.obj
        have eN : fmN ((ps.take (i + 1)).map (·.f.q)) = fmN ((ps.take i).map (·.f.q)) + x.f.q.1 := by
          have := fmN_take (ps := ps.map (·.f.q)) (i := i) (p := x.f.q) (by rw [List.getElem?_map, ep]; rfl)
          rw [← List.map_take, ← List.map_take] at this
          exact this
        have qx := q_pos x.f
        have pf := pts.few
        have lx := nodes_len hx
        have ll := nodes_len hf
        have le : x.l.length + 1 ≤ l.length := by
          rw [pts.nodes, List.length_cons]
          have := List.Sublist.length_le (List.sublist_flatten_of_mem (List.mem_map.mpr ⟨x, mx, rfl⟩ : x.l ∈ ps.map (·.l)))
          omega
        walk_at "rd"
        have nodx : NoD H3 D x.v := (hx.noD nD).same s2
        refine Rd.ifB (fun z1 => ?_) (fun z1 => ?_)
        · have z1 := of_decide_eq_true z1
          walk_at "rd"
          refine ⟨a', _, dx', fs', _, ev', ha', (T.at_ x.f).cl, (T.at_ x.f).no "_many", b1'.mn, ?_⟩
          walk_at "rd"
          refine ⟨.inl ⟨rfl, _, SqL.of d2⟩, ?_⟩
          walk_at "rd"
          refine Rd.ifB (fun z2 => ?_) (fun z2 => ?_)
          · have z2 := of_decide_eq_true z2
            have c1 : fmN ((ps.take i).map (·.f.q)) ≤ k ∧ k < fmN ((ps.take i).map (·.f.q)) + x.f.q.1 := ⟨by omega, by omega⟩
            have eP : newPart ps k g2 i x = x.f.put (k - fmN ((ps.take i).map (·.f.q))) g2 := if_pos c1
            walk_at "rd"
            refine ⟨x.f, a', dx', fs', ev', ha', b1'.meth "_with_node", ?_⟩
            walk_at "rd"
            refine ⟨x.f, x.v, x.l, k - fmN ((ps.take i).map (·.f.q)), g2, w2, m2, by rw [List.append_nil, show ((k : Nat) : Int) - ((fmN ((ps.take i).map (·.f.q)) : Nat) : Int) = ((k - fmN ((ps.take i).map (·.f.q)) : Nat) : Int) by omega], hx3, ox, by omega, hg2.kp (kp_same s2), by omega, by omega, eP ▸ pts.fits kz hk fit ep, fun u4 H4 m4 s4 f4 z4 => ?_⟩
            have f4 : FmAt K c H4 (newPart ps k g2 i x) u4 m4 := eP ▸ f4
            have nod4 : NoD H4 D u4 := z4.elim (fun e => by rw [e]; exact ((hg2.noD nD).same s2).same s4) fun z => z.noD
            walk_at "rd"
            have d4 := s4 _ _ d2
            refine ⟨D, us, _, rfl, rfl, d4, Rd.small' (by omega), ?_⟩
            have hl : us = [] ∨ ∃ a r C dx fs, us = .ref a :: r ∧ H4 a = some (.ins C dx fs) ∧ fs.lookup ("_sequence" : Str) ≠ some (.ref D) := by
              cases us with
              | nil => exact .inl rfl
              | cons u0 r0 =>
                obtain ⟨⟨a0, C0, dx0, fs0, rfl, h0, n0⟩, _⟩ := at_ 0 u0 rfl
                exact .inr ⟨a0, r0, C0, dx0, fs0, rfl, s4 _ _ h0, n0⟩
            walk_at "rd"
            refine ⟨a', _, dx', fs', _, ev', ins_list d4 (s4 _ _ ha'), (T.at_ x.f).cl, (T.at_ x.f).no "_many", b1'.mn, ?_⟩
            walk_at "rd"
            have sE : Same H (upd H4 D (.lst (us ++ [u4]))) := fun b o e => by rw [upd_ne (ne_of_none e nD)]; exact s4 _ _ (s2 _ _ e)
            refine ⟨⟨_, _, by rw [eN, Int.natCast_add]; rfl⟩, sE, us ++ [u4], upd_same, by rw [List.length_append, ul, Nat.min_eq_left (Nat.succ_le_of_lt hi2)]; rfl, fun j u e => ?_⟩
            by_cases hj : j < us.length
            · rw [List.getElem?_append_left hj] at e
              obtain ⟨⟨a0, C0, dx0, fs0, e0, h0, n0⟩, x0, m0, ex0, f0⟩ := at_ j u e
              exact ⟨⟨a0, C0, dx0, fs0, e0, ins_list d4 (s4 _ _ h0), n0⟩, x0, m0, ex0, (f0.kp (kp_same s4)).list d4 hl⟩
            · rw [List.getElem?_append_right (by omega)] at e
              have ej : j - us.length = 0 := by
                cases q : j - us.length with
                | zero => rfl
                | succ y => rw [q] at e; simp at e
              have ej2 : j = i := by omega
              subst ej2
              rw [ej] at e
              cases e
              obtain ⟨a0, C0, dx0, fs0, e0, h0, n0⟩ := nod4
              exact ⟨⟨a0, C0, dx0, fs0, e0, ins_list d4 h0, n0⟩, x, _, ep, f4.list d4 hl⟩
          · have z2 := of_decide_eq_false z2
            have eP : newPart ps k g2 i x = x.f := if_neg (fun c => z2 (by omega))
            walk_at "rd"
            have d4 := (Same.refl H3) _ _ d2
            refine ⟨D, us, _, rfl, rfl, d4, Rd.small' (by omega), ?_⟩
            have hl : us = [] ∨ ∃ a r C dx fs, us = .ref a :: r ∧ H3 a = some (.ins C dx fs) ∧ fs.lookup ("_sequence" : Str) ≠ some (.ref D) := by
              cases us with
              | nil => exact .inl rfl
              | cons u0 r0 =>
                obtain ⟨⟨a0, C0, dx0, fs0, rfl, h0, n0⟩, _⟩ := at_ 0 u0 rfl
                exact .inr ⟨a0, r0, C0, dx0, fs0, rfl, (Same.refl H3) _ _ h0, n0⟩
            walk_at "rd"
            refine ⟨a', _, dx', fs', _, ev', ins_list d4 ((Same.refl H3) _ _ ha'), (T.at_ x.f).cl, (T.at_ x.f).no "_many", b1'.mn, ?_⟩
            walk_at "rd"
            have sE : Same H (upd H3 D (.lst (us ++ [x.v]))) := fun b o e => by rw [upd_ne (ne_of_none e nD)]; exact (Same.refl H3) _ _ (s2 _ _ e)
            refine ⟨⟨_, _, by rw [eN, Int.natCast_add]; rfl⟩, sE, us ++ [x.v], upd_same, by rw [List.length_append, ul, Nat.min_eq_left (Nat.succ_le_of_lt hi2)]; rfl, fun j u e => ?_⟩
            by_cases hj : j < us.length
            · rw [List.getElem?_append_left hj] at e
              obtain ⟨⟨a0, C0, dx0, fs0, e0, h0, n0⟩, x0, m0, ex0, f0⟩ := at_ j u e
              exact ⟨⟨a0, C0, dx0, fs0, e0, ins_list d4 ((Same.refl H3) _ _ h0), n0⟩, x0, m0, ex0, (f0.kp (kp_same (Same.refl H3))).list d4 hl⟩
            · rw [List.getElem?_append_right (by omega)] at e
              have ej : j - us.length = 0 := by
                cases q : j - us.length with
                | zero => rfl
                | succ y => rw [q] at e; simp at e
              have ej2 : j = i := by omega
              subst ej2
              rw [ej] at e
              cases e
              obtain ⟨a0, C0, dx0, fs0, e0, h0, n0⟩ := nodx
              exact ⟨⟨a0, C0, dx0, fs0, e0, ins_list d4 h0, n0⟩, x, _, ep, (eP ▸ hx3).list d4 hl⟩
        · have z1 := of_decide_eq_false z1
          have eP : newPart ps k g2 i x = x.f := if_neg (fun c => z1 (by omega))
          walk_at "rd"
          refine ⟨.inl ⟨rfl, _, SqL.of d2⟩, ?_⟩
          walk_at "rd"
          refine iteF ?_
          walk_at "rd"
          have d4 := (Same.refl H3) _ _ d2
          refine ⟨D, us, _, rfl, rfl, d4, Rd.small' (by omega), ?_⟩
          have hl : us = [] ∨ ∃ a r C dx fs, us = .ref a :: r ∧ H3 a = some (.ins C dx fs) ∧ fs.lookup ("_sequence" : Str) ≠ some (.ref D) := by
            cases us with
            | nil => exact .inl rfl
            | cons u0 r0 =>
              obtain ⟨⟨a0, C0, dx0, fs0, rfl, h0, n0⟩, _⟩ := at_ 0 u0 rfl
              exact .inr ⟨a0, r0, C0, dx0, fs0, rfl, (Same.refl H3) _ _ h0, n0⟩
          walk_at "rd"
          refine ⟨a', _, dx', fs', _, ev', ins_list d4 ((Same.refl H3) _ _ ha'), (T.at_ x.f).cl, (T.at_ x.f).no "_many", b1'.mn, ?_⟩
          walk_at "rd"
          have sE : Same H (upd H3 D (.lst (us ++ [x.v]))) := fun b o e => by rw [upd_ne (ne_of_none e nD)]; exact (Same.refl H3) _ _ (s2 _ _ e)
          refine ⟨⟨_, _, by rw [eN, Int.natCast_add]; rfl⟩, sE, us ++ [x.v], upd_same, by rw [List.length_append, ul, Nat.min_eq_left (Nat.succ_le_of_lt hi2)]; rfl, fun j u e => ?_⟩
          by_cases hj : j < us.length
          · rw [List.getElem?_append_left hj] at e
            obtain ⟨⟨a0, C0, dx0, fs0, e0, h0, n0⟩, x0, m0, ex0, f0⟩ := at_ j u e
            exact ⟨⟨a0, C0, dx0, fs0, e0, ins_list d4 ((Same.refl H3) _ _ h0), n0⟩, x0, m0, ex0, (f0.kp (kp_same (Same.refl H3))).list d4 hl⟩
          · rw [List.getElem?_append_right (by omega)] at e
            have ej : j - us.length = 0 := by
              cases q : j - us.length with
              | zero => rfl
              | succ y => rw [q] at e; simp at e
            have ej2 : j = i := by omega
            subst ej2
            rw [ej] at e
            cases e
            obtain ⟨a0, C0, dx0, fs0, e0, h0, n0⟩ := nodx
            exact ⟨⟨a0, C0, dx0, fs0, e0, ins_list d4 h0, n0⟩, x, _, ep, (eP ▸ hx3).list d4 hl⟩
      · obtain ⟨⟨b, d, rfl⟩, s2, us, d2, ul, at_⟩ := z
        rw [List.length_map, Nat.min_self] at ul
        have sh := pts.shape
        cases g with
        | num y =>
          have hk : k < 1 := hk
          omega
        | ref y z =>
          have hk : k < 1 := hk
          omega
        | pair o f1 f2 =>
          match ps, us, sh, ul with
          | [p1, p2], [u1, u2], sh, _ =>
            simp only [partsOf, List.map_cons, List.map_nil, List.cons.injEq, and_true] at sh
            obtain ⟨rfl, rfl⟩ := sh
            obtain ⟨_, x1, m1, ex1, y1⟩ := at_ 0 u1 rfl
            obtain ⟨_, x2, m2, ex2, y2⟩ := at_ 1 u2 rfl
            cases ex1
            cases ex2
            have e := put_pair (g := g2) kz hk
            rw [e] at q fit
            walk_at "rd"
            refine ⟨some ⟨o, og.1⟩, a, dx, fs, rfl, s2 _ _ ha, b1.meth "_of_parts", ?_⟩
            walk_at "rd"
            exact ⟨.ref a, D, _, u1, m1, _, u2, _, rfl, d2, y1, y2, fit, fun u H2 l2 z => q u H2 l2 (s2.trans z.same) z.at_ (.inr z.sq)⟩
        | cho t sl f1 f2 =>
          match ps, us, sh, ul with
          | [p1, p2, p3], [u1, u2, u3], sh, _ =>
            simp only [partsOf, List.map_cons, List.map_nil, List.cons.injEq, and_true] at sh
            obtain ⟨rfl, rfl, rfl⟩ := sh
            obtain ⟨_, x1, m1, ex1, y1⟩ := at_ 0 u1 rfl
            obtain ⟨_, x2, m2, ex2, y2⟩ := at_ 1 u2 rfl
            obtain ⟨_, x3, m3, ex3, y3⟩ := at_ 2 u3 rfl
            cases ex1
            cases ex2
            cases ex3
            have e := put_cho (g := g2) kz hk
            rw [e] at q fit
            walk_at "rd"
            refine ⟨none, a, dx, fs, rfl, s2 _ _ ha, b1.meth "_of_parts", ?_⟩
            walk_at "rd"
            exact ⟨_, sl, _, _, .ref a, _, D, _, u1, m1, _, u2, _, _, u3, _, rfl, hf.kp (kp_same s2), og.1, d2, y1, y2, y3, fit, fun u H2 l2 z => q u H2 l2 (s2.trans z.same) z.at_ (.inr z.sq)⟩
end
end K12

namespace K12
open PySem PySem.Spec PyProof.Rows L2
local macro_rules | `(tactic| walk_at "rd1") => `(tactic| first
  | (with_reducible refine Rd.seq ?_) | (with_reducible refine Rd.asg ?_) | (with_reducible refine Rd.ret ?_) | (with_reducible refine Rd.nxt ?_) | (with_reducible refine Rd.ifS ?_)
  | (with_reducible refine Rd.op ?_) | (with_reducible refine Rd.un ?_) | (with_reducible refine Rd.cb ?_) | (with_reducible refine Rd.cons ?_) | (with_reducible refine Rd.nil ?_) | (with_reducible refine Rd.ifx ?_)
  | (with_reducible refine Rd.test ?_) | (with_reducible refine Rd.testB ?_) | (with_reducible refine Rd.notT ?_) | (with_reducible refine Rd.isB ?_) | (with_reducible refine Rd.lst ?_) | (with_reducible refine Rd.tup ?_)
  | (with_reducible refine Rd.andV ?_) | (with_reducible refine Rd.orV ?_) | (with_reducible refine Rd.notV ?_) | (with_reducible refine Rd.andT ?_) | (with_reducible refine Rd.orT ?_) | (with_reducible refine Rd.chain ?_)
  | (with_reducible refine Rd.m0 ?_) | (with_reducible refine Rd.m1 ?_) | (with_reducible refine Rd.bm0 ?_) | (with_reducible refine Rd.bm ?_) | (with_reducible refine Rd.sl ?_) | (with_reducible refine Rd.part ?_) | (with_reducible refine Rd.part0 ?_) | (with_reducible refine Rd.isI ?_)
  | (with_reducible refine Rd.fmt ?_) | (with_reducible refine Rd.fmtRD ?_) | (with_reducible refine Rd.meth ?_) | (with_reducible refine makeG ?_) | (with_reducible refine Rd.prop ?_) | (with_reducible refine Rd.js ?_) | (with_reducible refine Rd.js0 ?_) | (with_reducible refine Rd.par ?_) | (with_reducible refine Rd.star ?_) | (with_reducible refine lcR1 ?_) | (with_reducible refine lcR2 ?_) | (with_reducible refine Rd.fld ?_) | (with_reducible refine Rd.sfld ?_) | (with_reducible refine Rd.expr ?_) | (with_reducible refine L2.isNR ?_) | (with_reducible refine L2.methI ?_) | (with_reducible refine Rd.forZ ?_)
  | (with_reducible refine Rd.forEA ?_) | (with_reducible refine Rd.forR1 ?_) | (with_reducible refine Rd.forR2 ?_) | (with_reducible refine Rd.forL ?_) | (with_reducible refine Rd.forT ?_)
  | (with_reducible refine Rd.call ?_) | (with_reducible refine Rd.asgG ?_) | (with_reducible refine Rd.gNm ?_) | (with_reducible refine Rd.gSb ?_) | (with_reducible refine Rd.gC ?_) | (with_reducible refine Rd.gN ?_)
  | ((with_reducible refine' Rd.var ?hv ?_); (case hv => exact rfl)) | (with_reducible refine Rd.c ?_) | (with_reducible refine Rd.i0 ?_) | (with_reducible refine Rd.neg ?_)
  | ((with_reducible refine' Rd.iC ?hc ?_); (case hc => first | (show (0 : Int) < _; decide) | exact ⟨by decide, by decide⟩ | exact ⟨by decide, by decide, by decide⟩ | exact .inl ⟨by decide, by decide⟩ | exact .inr ⟨by decide, by decide⟩ | exact .inl ⟨by omega, by omega⟩ | (show (0 : Int) < _; omega) | exact ⟨by omega, by omega⟩))
  | ((with_reducible refine' Rd.eqS ?hc ?_); (case hc => rfl)) | ((with_reducible refine' Rd.neS ?hc ?_); (case hc => rfl)))
local macro_rules | `(tactic| walk_at "rd") => `(tactic| repeat walk_at "rd1")
/-- all formulas stay what they are, all else that was there stays -/
structure Kf (K : PySem.W.Frag) (c : Cs) (H H' : Hp) : Prop where
  fm : ∀ {f : Fm} {v : V} {l : List V}, Okf f → FmAt K c H f v l → FmAt K c H' f v l
  oth : ∀ {b : Addr} {o : HO}, H b = some o → (∀ C dx fs, o ≠ .ins C dx fs) → H' b = some o
  free : ∀ {b : Addr}, H' b = none → H b = none
theorem Kf.refl {K : PySem.W.Frag} {c : Cs} {H : Hp} : Kf K c H H := ⟨fun _ h => h, fun h _ => h, fun h => h⟩
theorem kf_same {K : PySem.W.Frag} {c : Cs} {H H' : Hp} (s : Same H H') : Kf K c H H' := ⟨fun _ h => h.kp (kp_same s), fun h _ => s _ _ h, fun h => s.free h⟩
theorem Kf.trans {K : PySem.W.Frag} {c : Cs} {H H1 H2 : Hp} (k : Kf K c H H1) (k' : Kf K c H1 H2) : Kf K c H H2 := ⟨fun o h => k'.fm o (k.fm o h), fun h n => k'.oth (k.oth h n) n, fun h => k.free (k'.free h)⟩
theorem kf_seq {K : PySem.W.Frag} {c : Cs} {l : List V} {N : Addr → Prop} {H H' : Hp} (inj : InjT K H) (k : SeqC K c l N H H') : Kf K c H H' := ⟨fun o h => h.seq inj k o, fun h n => k.oth h n, fun h => k.free h⟩
theorem sqt_kf {K : PySem.W.Frag} {c : Cs} {H H' : Hp} {a : Addr} {xs : List V} (k : Kf K c H H') (h : SqT K H a xs) : SqT K H' a xs := by
  rcases h with (h | ⟨o, h⟩) | h
  · exact .inl (.inl (k.oth h fun _ _ _ z => by cases z))
  · exact .inl (.inr ⟨o, k.oth h fun _ _ _ z => by cases z⟩)
  · exact .inr h
theorem TpAt.kf {K : PySem.W.Frag} {c : Cs} {H H' : Hp} (k : Kf K c H H') : ∀ {f : Fm} {v : V}, TpAt K H f v → TpAt K H' f v
  | .num n, v, ⟨a, e, h⟩ => ⟨a, e, sqt_kf k h⟩
  | .ref w x, v, ⟨a, e, h⟩ => ⟨a, e, sqt_kf k h⟩
  | .pair o f1 f2, v, ⟨a, v1, v2, e, h, h1, h2⟩ => ⟨a, v1, v2, e, sqt_kf k h, TpAt.kf k h1, TpAt.kf k h2⟩
  | .cho f1 s f2 f3, v, ⟨a, v1, t, v2, v3, e, h, h1, h2, h3, h4⟩ => ⟨a, v1, t, v2, v3, e, sqt_kf k h, TpAt.kf k h1, sqt_kf k h2, TpAt.kf k h3, TpAt.kf k h4⟩
theorem at_ok : ∀ (f : Fm) (k : Nat), Okf f → Okf (f.at k)
  | f, 0, h => by
    have e : f.at 0 = f := by cases f <;> rfl
    rw [e]
    exact h
  | .num n, k + 1, h => h
  | .ref w x, k + 1, h => h
  | .pair o l r, k + 1, h => by
    unfold Fm.at
    split
    · exact at_ok l _ h.2.1
    · exact at_ok r _ h.2.2
  | .cho t s a b, k + 1, h => by
    unfold Fm.at
    split
    · exact at_ok t _ h.2.1
    · split
      · exact at_ok a _ h.2.2.1
      · exact at_ok b _ h.2.2.2
abbrev sPut : Stmt := sMeth iFormula 4
def spPut (K : PySem.W.Frag) (c : Cs) (n : Nat) : Sp := fun vs H Q _ => ∃ (f : Fm) (v : V) (l : List V) (k : Nat) (g : Fm) (w : V) (m : List V), vs = [v, .int (k : Nat), w] ∧ FmAt K c H f v l ∧ Okf f ∧ f.ht ≤ n ∧ FmAt K c H g w m ∧ Okf g ∧ k < f.q.1 ∧ f.q.1 ≤ 1000 ∧ Fits (f.put k g) ∧
  ∀ u H' l', Kf K c H H' → FmAt K c H' (f.put k g) u l' → Q u H'
section
variable {P : Program} {w : World} {K : PySem.W.Frag} {mg : Str → Option Value} {base : Heap} {c : Cs} {f fE fW fB fC : Addr} {fd fdE fdW fdB fdC : FuncData}
theorem scPut : FnScope ["self", "number", "formula", "old"] ["self", "number", "formula"] (defScope sPut) := ⟨rfl, rfl, rfl, by decide +kernel, rfl, by decide +kernel, by decide +kernel⟩
theorem ok_put {n : Nat} (F : FunD K "put" "Formula.put" (defArgs sPut) (defBody sPut) (defScope sPut) [] [] f fd) (T : Cl K c) (G : Gf mg)
    (FB : FnP K "is_between" sBetween fB fdB) (GB : FnOk P w K mg base CX0 1 fB fdB ["value", "low", "high"] spBetween) (gB : mg "is_between" = some (.ref fB))
    (FC : FnP K "_check_formula" sCheckF fC fdC) (GC : FnOk P w K mg base CX0 1 fC fdC ["value"] (spCheckF K c)) (gC : mg "_check_formula" = some (.ref fC))
    (mE : ∀ g, Meth K (clsOf c g) "_every" fE) (GE : FnOk P w K mg base CX0 (n + 1) fE fdE ["self"] (spEvery K c n)) (bE : Binds K fdE ["self"] [])
    (mW : ∀ g, Meth K (clsOf c g) "_with_node" fW) (GW : FnOk P w K mg base CX0 (n + 6) fW fdW ["self", "number", "formula"] (spWith K c n)) (bW : Binds K fdW ["self", "number", "formula"] []) :
    FnOk P w K mg base CX0 (n + 7) f fd ["self", "number", "formula"] (spPut K c n) := by
  have bB : Binds K fdB ["value", "low", "high"] [] := FB.bindsN fun _ _ _ _ _ _ us hl => match us, hl with | [_, _, _], _ => rfl
  have bC : Binds K fdC ["value"] [] := FC.bindsN fun _ _ _ _ _ _ us hl => match us, hl with | [_], _ => rfl
  obtain ⟨t1, gN⟩ := G.mn
  have nd := scPut.nd
  refine F.ok scPut (fun vs H Q E h => ?_) (fun cdv A outer s H vs Q E hr h => ?_)
  · obtain ⟨g, v, l, k, g2, w2, m2, rfl, _⟩ := h
    rfl
  · obtain ⟨g, v, l, k, g2, w2, m2, rfl, hf, og, ht, hg2, og2, hk, few, fit, q⟩ := h
    have r1 := hr.mono (show 1 ≤ n + 6 by omega)
    have rE := hr.mono (show n + 1 ≤ n + 6 by omega)
    refine ⟨_, PSs.nox (pss_inj (pss_cons (ps_if (pt_not (pt_val (pe_call GB r1 rfl gB FB.kp bB .nil pass0 (pa_cons (pv 1) (pa_cons pe_int (pa_cons (pe_op op_sub (pe_fld (pv 0) rfl) pe_int) pa_nil)))))) (pss_one ps_never) pss_nil)
      (pss_cons (ps_expr (pe_call GC r1 rfl gC FC.kp bC .nil pass0 (pa_cons (pv 2) pa_nil)))
      (pss_cons (ps_set (i := 3) nd rfl (Or.inl rfl) (pe_ix ix_list (pe_methI0 (ι := Fm) (C := clsOf c) (f := fun _ => fE) (fd := fun _ => fdE) (sp := fun _ => spEvery K c n) (pv 0) (fun i => (T.at_ i).cl) mE (fun _ => GE) rE (fun _ => bE) .nil pass0) (pv 1) (fun _ _ => rfl)))
      (pss_cons (ps_if (pt_cmpR op_gt (pe_op op_add (pe_op op_sub (pe_fld (pv 0) rfl) (pe_fld (pv 3) rfl)) (pe_fld (pv 2) rfl)) (pe_glob rfl gN (v := .int 40) ⟨_, rfl⟩) (nomark _)) (pss_one ps_never) pss_nil)
      (pss_one (ps_ret (pe_methI (ι := Fm) (C := clsOf c) (f := fun _ => fW) (fd := fun _ => fdW) (sp := fun _ => spWith K c n) (pv 0) (fun i => (T.at_ i).cl) mW (fun _ => GW) hr (fun _ => bW) .nil pass0 (pa_cons (pv 1) (pa_cons (pv 2) pa_nil)))))))))), ?_⟩
    intro inj
    obtain ⟨a, dx, fs, g1, p, r, rfl, el, ha, b1⟩ := id hf.obj
    walk_at "rd"
    refine ⟨a, _, dx, fs, _, rfl, ha, (T.at_ g).cl, (T.at_ g).no "_many", b1.mn, ?_⟩
    walk_at "rd"
    refine ⟨_, _, _, rfl, ?_⟩
    rw [decide_eq_true (show (0 : Int) ≤ (k : Nat) by omega), decide_eq_true (show ((k : Nat) : Int) ≤ ((g.q.1 : Nat) : Int) - 1 by omega)]
    walk_at "rd"
    refine iteF ?_
    walk_at "rd"
    refine ⟨g2, w2, m2, rfl, hg2, ?_⟩
    walk_at "rd"
    refine ⟨g, a, dx, fs, rfl, ha, b1.meth "_every", ?_⟩
    walk_at "rd"
    refine ⟨g, .ref a, l, rfl, hf, og, ht, few, fun H1 q1 k1 h1 => ?_⟩
    walk_at "rd"
    have kf1 := kf_seq inj k1
    obtain ⟨u, mu, eu, hu⟩ := hf.at_ hk
    refine Rd.ixL' (SqL.of h1) (by rw [Rd.at_nat (by rw [nodes_len hf]; exact hk)]; exact eu) ?_
    walk_at "rd"
    have hf1 := kf1.fm og hf
    have hu1 := kf1.fm (at_ok g k og) hu
    have hw1 := kf1.fm og2 hg2
    obtain ⟨a1, dx1, fs1, g11, p1, r1, e1, _, ha1, b11⟩ := id hf1.obj
    cases e1
    obtain ⟨a2, dx2, fs2, g12, p2, r2, rfl, _, ha2, b12⟩ := id hu1.obj
    obtain ⟨a3, dx3, fs3, g13, p3, r3, rfl, _, ha3, b13⟩ := id hw1.obj
    refine ⟨a, _, dx1, fs1, _, rfl, ha1, (T.at_ g).cl, (T.at_ g).no "_many", b11.mn, ?_⟩
    walk_at "rd"
    refine ⟨a2, _, dx2, fs2, _, rfl, ha2, (T.at_ _).cl, (T.at_ _).no "_many", b12.mn, ?_⟩
    walk_at "rd"
    refine ⟨a3, _, dx3, fs3, _, rfl, ha3, (T.at_ _).cl, (T.at_ _).no "_many", b13.mn, ?_⟩
    walk_at "rd"
    have pq := put_q g k g2 hk
    have f40 := fit.1
    refine Rd.ifB (fun z => ?_) (fun _ => ?_)
    · have := of_decide_eq_true z
      omega
    walk_at "rd"
    refine ⟨g, a, dx1, fs1, rfl, ha1, b11.meth "_with_node", ?_⟩
    walk_at "rd"
    exact ⟨g, .ref a, l, k, g2, _, _, rfl, hf1, og, ht, hw1, hk, few, fit, fun u H2 l2 s2 h2 _ => q u H2 l2 (kf1.trans (kf_same s2)) h2⟩
end
end K12

/-! Sets of texts whose table can be walked: add, sorted. -/
namespace L2
open PySem PySem.Spec PyProof.Rows PySem.Froz
/-- the payload D holds the texts l, and can be walked -/
structure TxW (P : Program) (w : World) (D : SD) (l : List Str) : Prop where
  ok : TxOk P w D l
  nd : l.Nodup
  ris : Ris D.2.2.place.toList
  led : w.params.followText "set-order" = true ∨ D.2.2.led = true
theorem tail_ris {ep : Nat} {es : Array (Int × Value)} {t : SetTable} {b : Bool} (h : Ris t.place.toList) : Ris (tailTx ep es t b).2.2.place.toList := by
  unfold tailTx
  split
  · exact relayAll_ris _ _ _
  · exact h
theorem tail_led {ep : Nat} {es : Array (Int × Value)} {t : SetTable} {b : Bool} (h : t.led = true) : (tailTx ep es t b).2.2.led = true := by
  unfold tailTx
  split
  · rw [relayAll_led]; exact h
  · exact h
theorem TxW.add {P : Program} {w : World} {D : SD} {l : List Str} {k : Str} (u : Tok) (F : TxW P w D l) (hk : k ∉ l) : TxW P w (addTx (hashStr w k) (.str k u) D) (k :: l) := by
  have r := layNew_ris D.2.2 D.1 (hashStr w k) (.str k u) F.ris
  have d := layNew_led D.2.2 D.1 (hashStr w k) (.str k u)
  refine ⟨add_ok u F.ok, List.nodup_cons.mpr ⟨hk, F.nd⟩, ?_, F.led.imp id fun z => ?_⟩
  · unfold addTx
    refine tail_ris ?_
    split <;> exact r
  · unfold addTx
    refine tail_led ?_
    split <;> (rw [← z]; exact d)
/-- the object of a set that is empty and new -/
abbrev mtSet (w : World) : SD := (#[], 0, .fresh 0 0 (!w.params.followText "set-order"))
theorem TxW.nil {P : Program} {w : World} : TxW P w (mtSet w) [] :=
  ⟨TxOk.nil (by rfl), List.nodup_nil, List.Pairwise.nil, by
    cases e : w.params.followText "set-order"
    · exact .inr (by show (!w.params.followText "set-order") = true; rw [e]; rfl)
    · exact .inl rfl⟩
section
variable {P : Program} {w : World} {A : Around} {E : Value → Shared → Prop} {s : Shared} {a : Addr} {D : SD} {l : List Str} {k : Str} {u : Tok}
/-- the add of a text that is there -/
theorem addOld {Q : Bool → Shared → Prop} (ho : s.heap.get? a = some (sObj "set" D)) (F : TxOk P w D l) (hk : k ∈ l) (hb : l.length < scanBound) (h : Q false s) : wpAny (model P w) A (setAddHashed a (.str k u) (hashStr w k)) Q E s := by
  obtain ⟨es, ep, t⟩ := D
  have kd : (strKind P w).is k (.str k u) = true := is_str k u
  obtain ⟨e, he, q⟩ := (F.mem k).mp hk
  have there : ∃ j, List.findIdx? (fun e => (strKind P w).is k e.2) es.toList = some j := by
    cases z : List.findIdx? (fun e => (strKind P w).is k e.2) es.toList with
    | some j => exact ⟨j, rfl⟩
    | none =>
      have := List.findIdx?_eq_none_iff.mp z e he
      rw [q] at this
      cases this
  obtain ⟨j, hj⟩ := there
  have few : es.size < scanBound := Nat.lt_of_le_of_lt (Nat.le_of_eq (show es.size = l.length from F.sz)) hb
  unfold setAddHashed setAddHashedIn
  refine wpAny_holding (wpAny_bind (wpAny_setState_of ho rfl F.fit ?_))
  dsimp only
  rw [byScan_of rfl few F.el]
  simp only [↓reduceIte]
  unfold setAddByScan
  refine wpAny_bind (wpAny_bind (wpAny_rule (wpAny_bind (wpAny_setScan_of (knd := strKind P w) kd ho rfl F.fit F.el ?_))))
  rw [hj]
  exact wpAny_pure (wpAny_pure h)
/-- set.add -/
theorem setT_add {Q : Value → Shared → Prop} (ho : s.heap.get? a = some (sObj "set" D)) (T : TxW P w D l) (hb : l.length + 1 < scanBound) (old : k ∈ l → Q .none { s with toks := s.toks + 1 })
    (new : k ∉ l → Q .none { s with heap := s.heap.update a (fun _ => sObj "set" (addTx (hashStr w k) (.str k u) D)), toks := s.toks + 1 }) : wpAny (model P w) A (call (.builtin "set.add") [.ref a, .str k u]) Q E s := by
  refine wpAny_call_entry F.slot_set_add (T := "set") ⟨_, ho, rfl⟩ F.entry_set_add ?_ (F.args_set_add_2 _ _)
  unfold Builtin.«set.add» Builtin.Frozenset.oneOther
  simp only [List.isEmpty_nil, bind_assoc]
  unfold Builtin.Frozenset.addrOf setAdd
  refine wpAny_bind (wpAny_pure ?_)
  try dsimp only
  refine wpAny_bind (wpAny_pure ?_)
  try dsimp only
  refine wpAny_bind (wpAny_holding (wpAny_bind ((strKind P w).pyHash (is_str k u) ?_)))
  by_cases hk : k ∈ l
  · exact addOld (s := { s with toks := s.toks + 1 }) ho T.ok hk (by omega) (wpAny_pure ⟨_, rfl, old hk⟩)
  · exact add_x (s := { s with toks := s.toks + 1 }) ho T.ok hk hb (wpAny_pure ⟨_, rfl, new hk⟩)
theorem strs_of : ∀ us : List Value, (∀ v ∈ us, ∃ x t, v = Value.str x t) → ∃ xs, StrsAre us xs
  | [], _ => ⟨[], .nil⟩
  | v :: us, h => by
    obtain ⟨x, t, rfl⟩ := h v List.mem_cons_self
    obtain ⟨xs, hx⟩ := strs_of us fun u hu => h u (List.mem_cons_of_mem _ hu)
    exact ⟨x :: xs, .cons x t hx⟩
end
end L2

/-! Sets of texts: set(xs) of a list of texts, sorted of such a set, the comprehension. -/
namespace L2
open PySem PySem.Spec PyProof.Rows PySem.Froz
/-- the members behind one more add -/
def addL (l : List Str) (k : Str) : List Str := if k ∈ l then l else k :: l
theorem addL_mem {l : List Str} {k x : Str} : x ∈ addL l k ↔ x ∈ l ∨ x = k := by
  unfold addL
  split
  · rename_i h
    exact ⟨.inl, fun z => z.elim id fun e => e ▸ h⟩
  · rw [List.mem_cons]; exact Or.comm
theorem addL_len (l : List Str) (k : Str) : (addL l k).length ≤ l.length + 1 := by
  unfold addL
  split
  · exact Nat.le_succ _
  · exact Nat.le_refl _
theorem addAll_mem {x : Str} : ∀ (xs l : List Str), x ∈ xs.foldl addL l ↔ x ∈ l ∨ x ∈ xs
  | [], l => by simp
  | y :: r, l => by rw [List.foldl_cons, addAll_mem r, addL_mem, List.mem_cons, or_assoc]
theorem addAll_len : ∀ (xs l : List Str), (xs.foldl addL l).length ≤ l.length + xs.length
  | [], l => by simp
  | y :: r, l => by
    rw [List.foldl_cons, List.length_cons]
    have := addAll_len r (addL l y)
    have := addL_len l y
    omega
theorem perm_of_nd : ∀ (l ss : List Str), l.Nodup → (∀ x ∈ l, x ∈ ss) → ss.length = l.length → ss.Perm l
  | [], ss, _, _, e => by rw [List.length_eq_zero_iff.mp e]
  | k :: l, ss, nd, h, e => by
    have hk : k ∈ ss := h k List.mem_cons_self
    have p := List.perm_cons_erase hk
    refine p.trans ((perm_of_nd l (ss.erase k) nd.of_cons (fun x hx => ?_) ?_).cons k)
    · have ne : x ≠ k := fun z => (List.nodup_cons.mp nd).1 (z ▸ hx)
      exact (List.mem_erase_of_ne ne).mpr (h x (List.mem_cons_of_mem _ hx))
    · rw [List.length_erase_of_mem hk, e]; rfl
/-- texts in their order: two rows of the same members are one -/
theorem lt_tri (x y : Str) (h1 : ltCps x.cps.toList y.cps.toList = false) (h2 : ltCps y.cps.toList x.cps.toList = false) : x = y := by
  rw [PyProof.Rows.ltCps_eq] at h1 h2
  have a := List.not_lt.mp (of_decide_eq_false h1)
  have b := List.not_lt.mp (of_decide_eq_false h2)
  have e := List.le_antisymm a b
  cases x
  cases y
  exact congrArg Str.mk (Array.toList_inj.mp e).symm
theorem rising_all : ∀ (r : List Str) (p : Str), risingS p r = true → ∀ x ∈ r, ltCps x.cps.toList p.cps.toList = false
  | [], _, _, x, hx => nomatch hx
  | y :: r, p, h, x, hx => by
    have h' : (!ltCps y.cps.toList p.cps.toList && risingS y r) = true := h
    rw [Bool.and_eq_true, Bool.not_eq_true'] at h'
    rcases List.mem_cons.mp hx with e | e
    · rw [e]; exact h'.1
    · have z := rising_all r y h'.2 x e
      rw [PyProof.Rows.ltCps_eq] at z ⊢
      have z1 := h'.1
      rw [PyProof.Rows.ltCps_eq] at z1
      exact decide_eq_false (List.not_lt.mpr (List.le_trans (List.not_lt.mp (of_decide_eq_false z1)) (List.not_lt.mp (of_decide_eq_false z))))
theorem rising_tail {p : Str} : ∀ {r : List Str}, risingS p r = true → sortedS r = true
  | [], _ => rfl
  | y :: r, h => by
    have h' : (!ltCps y.cps.toList p.cps.toList && risingS y r) = true := h
    exact ((Bool.and_eq_true _ _).mp h').2
theorem sorted_one : ∀ (xs ys : List Str), sortedS xs = true → sortedS ys = true → xs.Perm ys → xs = ys
  | [], ys, _, _, p => (List.nil_perm.mp p).symm
  | x :: xs, [], _, _, p => nomatch (List.perm_nil.mp p)
  | x :: xs, y :: ys, hx, hy, p => by
    have e : x = y := by
      have mx : x ∈ y :: ys := p.mem_iff.mp List.mem_cons_self
      have my : y ∈ x :: xs := p.mem_iff.mpr List.mem_cons_self
      rcases List.mem_cons.mp mx with z | z
      · exact z
      · rcases List.mem_cons.mp my with z2 | z2
        · exact z2.symm
        · exact lt_tri x y (rising_all ys y hy x z) (rising_all xs x hx y z2)
    subst e
    rw [sorted_one xs ys (rising_tail hx) (rising_tail hy) (List.Perm.cons_inv p)]
theorem strsAre_mem {k : Str} {u : Tok} : ∀ {vs : List Value} {ss : List Str}, StrsAre vs ss → Value.str k u ∈ vs → k ∈ ss
  | _, _, .nil, m => nomatch m
  | _, _, .cons x t r, m => by
    rcases List.mem_cons.mp m with e | e
    · injection e with e1 _
      rw [e1]; exact List.mem_cons_self
    · exact List.mem_cons_of_mem _ (strsAre_mem r e)
section
variable {P : Program} {w : World} {A : Around} {E : Value → Shared → Prop} {s : Shared} {a : Addr} {D : SD} {l : List Str} {k : Str} {u : Tok}
/-- an add, whether the text is there or not -/
theorem oneAdd {Q : Bool → Shared → Prop} (ho : s.heap.get? a = some (sObj "set" D)) (T : TxW P w D l) (hb : l.length + 1 < scanBound)
    (h : ∀ b h' D', Heap.SameBut a s.heap h' → h'.get? a = some (sObj "set" D') → TxW P w D' (addL l k) → Q b { s with heap := h', toks := s.toks + 1 }) :
    wpAny (model P w) A (setAdd a (.str k u)) Q E s := by
  unfold setAdd
  refine wpAny_holding (wpAny_bind ((strKind P w).pyHash (is_str k u) ?_))
  by_cases hk : k ∈ l
  · refine addOld (s := { s with toks := s.toks + 1 }) ho T.ok hk (by omega) (h _ _ D (Heap.SameBut.refl a s.heap) ho ?_)
    unfold addL
    rw [if_pos hk]; exact T
  · refine add_x (s := { s with toks := s.toks + 1 }) ho T.ok hk hb (h _ _ _ (Heap.SameBut.update s.heap a _) (get_upd _ ho rfl) ?_)
    unfold addL
    rw [if_neg hk]; exact T.add u hk
/-- set.add, whether the text is there or not -/
theorem callAdd {Q : Value → Shared → Prop} (ho : s.heap.get? a = some (sObj "set" D)) (T : TxW P w D l) (hb : l.length + 1 < scanBound)
    (h : ∀ h' D', Heap.SameBut a s.heap h' → h'.get? a = some (sObj "set" D') → TxW P w D' (addL l k) → Q .none { s with heap := h', toks := s.toks + 1 }) :
    wpAny (model P w) A (call (.builtin "set.add") [.ref a, .str k u]) Q E s := by
  refine setT_add ho T hb (fun hk => h _ D (Heap.SameBut.refl a s.heap) ho ?_) fun hk => h _ _ (Heap.SameBut.update s.heap a _) (get_upd _ ho rfl) ?_
  · unfold addL
    rw [if_pos hk]; exact T
  · unfold addL
    rw [if_neg hk]; exact T.add u hk
/-- sorted of a set of texts -/
theorem sortedTx {Q : Value → Shared → Prop} (ho : s.heap.get? a = some (sObj "set" D)) (T : TxW P w D l) (hh : A.handled = none) (few : l.length < 64)
    (h : ∀ s' p (out : Array Value) (c : Nat) (ys : List Str), (∀ b o, s.heap.get? b = some o → s'.heap.get? b = some o) → s'.gens = s.gens ∧ s'.os = s.os → s.heap.objs.size ≤ p ∧ s'.heap.get? p = some (seqObj "list" out c) →
      StrsAre out.toList ys → ys.Perm l → sortedS ys = true → Q (.ref p) s') :
    wpAny (model P w) A (call (.builtin "sorted") [.ref a]) Q E s := by
  obtain ⟨es, ep, t⟩ := D
  have hz0 : es.size = l.length := T.ok.sz
  have kd : ∀ e ∈ es.toList, ∃ x z, e.2 = Value.str x z ∧ x ∈ l := fun e he => by
    obtain ⟨⟨x, q, _⟩, _⟩ := T.ok.el e he
    obtain ⟨z, ez⟩ := Value.isStrOf_shape q
    exact ⟨x, z, ez, (T.ok.mem x).mpr ⟨e, he, q⟩⟩
  refine Calls.call_function_entry kind_sorted plain_sorted entry_sorted (args_sorted1 _) ?_
  unfold Builtin.«sorted»
  refine wpAny_bind (m := checkCount "sorted" 1 1 _) (wpAny_pure ?_)
  refine wpAny_bind (collect_set (A := A.in1) (es := es) (ep := ep) (t := t) hh ⟨_, ho, rfl, rfl⟩ T.ok.fit (by rw [hz0]; exact Nat.lt_of_lt_of_le few (by decide)) T.ris T.led fun s1 vs k1 hz g1 o1 pm => ?_)
  have hvl : vs.length = l.length := by rw [pm.length_eq, List.length_map, Array.length_toList, hz0]
  obtain ⟨ss, hS⟩ := strs_of vs fun v hv => by
    obtain ⟨e, he, q⟩ := List.mem_map.mp (pm.mem_iff.mp hv)
    obtain ⟨x, z, e1, _⟩ := kd e he
    exact ⟨x, z, by rw [← q]; exact e1⟩
  have pl : ss.Perm l := by
    refine perm_of_nd l ss T.nd (fun x hx => ?_) ?_
    · obtain ⟨e, he, q⟩ := (T.ok.mem x).mp hx
      obtain ⟨z, ez⟩ := Value.isStrOf_shape q
      have m : e.2 ∈ vs := pm.mem_iff.mpr (List.mem_map_of_mem he)
      rw [ez] at m
      exact strsAre_mem hS m
    · rw [← hvl]; exact (StrsAre.len_eq hS).symm
  refine wpAny_bind (wpAny_newList ?_ (by rw [hvl, sizeLine_eq]; omega))
  have hoL : (s1.heap.push (seqObj "list" vs.toArray 0)).get? s1.heap.objs.size = some (seqObj "list" vs.toArray 0) := Heap.get?_push_size _ rfl
  refine wpAny_bind (wpAny_holding (wpAny_call_entry slot_list_sort ⟨_, hoL, rfl⟩ entry_list_sort (list_sort_treeK strKind_oneLt hoL hS.keysOf (fun v₁ v₂ rest e => keyKind_strs (by rw [← e]; exact hS)) (by rw [hvl]; exact few) fun st' hp hs => ⟨_, rfl, ?_⟩) (args_list_sort _)))
  obtain ⟨ys, a1, a2, a3⟩ := sorted_out_str hS hp hs
  obtain ⟨c, hc⟩ := sortedHeap_at (vs := vs) (out := (arrOf st').map (·.2)) hoL
  refine wpAny_pure ⟨_, rfl, h _ s1.heap.objs.size _ c ys (fun b o e => ?_) ⟨g1, o1⟩ ⟨hz, hc⟩ a1 (a2.trans pl) a3⟩
  have e2 := k1 b o e
  have lt := Heap.lt_size e2
  show (sortedHeap (s1.heap.push (seqObj "list" vs.toArray 0)) s1.heap.objs.size vs _).get? b = some o
  rw [sortedHeap_old (Nat.ne_of_lt lt) (by rw [Heap.size_push]; exact Nat.lt_succ_of_lt lt)]
  exact Heap.get?_push_of_some _ e2
end
end L2

/-! Sets of texts: set(xs) of a list of texts; as tracked things. -/
namespace L2
open PySem PySem.Spec PyProof.Rows PySem.Froz
section
variable {P : Program} {w : World} {A : Around} {E : Value → Shared → Prop} {s : Shared}
/-- the update loop over a walk whose items are the texts xs -/
theorem updTx {I : Addr} {fp wr : List Addr} {G : Array GenState → Array GenState → Prop} {n : Nat} {Pv : Nat → Value → Prop} {St : Nat → Shared → Prop} {R : Result → Shared → Prop}
    (W : WalksS P w A.in1 I fp wr G n Pv St) (S : Addr) (hSf : S ∉ fp) (xs : List Str) (hn : n = xs.length) (room : xs.length + 1 < scanBound) (txt : ∀ i v, Pv i v → ∃ k u, xs[i]? = some k ∧ v = .str k u)
    (fin : ∀ (s0 s1 : Shared) D', Moved (S :: wr) G s0 s1 → s1.heap.get? S = some (sObj "set" D') → TxW P w D' (xs.foldl addL []) → (s0 = s → R (.ok (.ret .none)) s1)) :
    ∀ (m i : Nat) (s' : Shared) (D : SD), n - i = m → i ≤ n → St i s' → s'.heap.get? S = some (sObj "set" D) → TxW P w D ((xs.take i).foldl addL []) → Moved (S :: wr) G s s' → codeAny (model P w) A (.builtin "set.update.loop" ⟨[.ref S, .ref I], []⟩) R s' := by
  have nw : S ∉ wr := fun z => hSf (W.sub _ z)
  have up : ∀ b ∈ wr, b ∈ S :: wr := fun b z => List.mem_cons_of_mem _ z
  intro m
  induction m with
  | zero =>
    intro i s' D e1 e2 st ho T mv
    obtain rfl : i = n := by omega
    refine codeAny_builtin F.entry_set_update_loop ?_
    rw [Around.under_plainId F.plain_set_update_loop _]
    show wpAny _ A.in1 (pyNext (.ref I) >>= _) _ _ s'
    refine wpAny_bind (W.done s' _ _ st fun s2 mm => ?_)
    rw [List.take_of_length_le (by omega)] at T
    show wpAny _ A.in1 (ret Value.none) _ _ s2
    exact wpAny_pure (fin s s2 D (Moved.trans W.gtrans mv (mm.mono up)) (mm.heap S _ nw ho) T rfl)
  | succ m ih =>
    intro i s' D e1 e2 st ho T mv
    have lt : i < n := by omega
    refine codeAny_builtin F.entry_set_update_loop ?_
    rw [Around.under_plainId F.plain_set_update_loop _]
    show wpAny _ A.in1 (pyNext (.ref I) >>= _) _ _ s'
    refine wpAny_bind (W.item i s' _ _ lt st fun v s2 hP st2 mm => ?_)
    obtain ⟨k, u, hk, rfl⟩ := txt i v hP
    have ho2 := mm.heap S _ nw ho
    show wpAny _ A.in1 (holding [Value.str k u] (setAdd S (.str k u)) >>= _) _ _ s2
    refine wpAny_bind (wpAny_holding (oneAdd ho2 T ?_ fun b h' D' sb hg T' => ?_))
    · have z := addAll_len (xs.take i) []
      have z2 : (xs.take i).length ≤ i := List.length_take_le _ _
      simp only [List.length_nil, Nat.zero_add] at z
      omega
    have T2 : TxW P w D' ((xs.take (i + 1)).foldl addL []) := by
      rw [List.take_add_one, hk, Option.toList_some, List.foldl_append]
      exact T'
    refine wpAny_pure ⟨plainId_quiet F.plain_set_update_loop _, ih (i + 1) _ D' (by omega) lt (W.frame _ s2 _ _ st2 (Nat.le_succ _) fun b hb o e => ?_) hg T2 ?_⟩
    · rw [sb.2 b (fun z : b = S => hSf (z ▸ hb))]; exact e
    · exact Moved.trans W.gtrans mv ((mm.mono up).then_heap (Nat.le_succ _) fun b o nb e => (sb.2 b (fun z : b = S => nb (z ▸ List.mem_cons_self))).trans e)
/-- set(xs), xs a list of texts -/
theorem setOfTx {l : Addr} {items : Array Value} {xs : List Str} {Q : Value → Shared → Prop} (hh : A.handled = none) (hl : s.heap.IsList l items) (hi : StrsAre items.toList xs) (room : xs.length + 1 < scanBound)
    (h : ∀ (h' : Heap) (tk : Nat) (D : SD), h'.get? s.heap.objs.size = some (sObj "set" D) → TxW P w D (xs.foldl addL []) → (∀ b o, s.heap.get? b = some o → h'.get? b = some o) → Q (.ref s.heap.objs.size) { s with heap := h', toks := tk }) :
    wpAny (model P w) A (call (.type "set") [.ref l]) Q E s := by
  have many : items.size = xs.length := by rw [← StrsAre.len_eq hi, Array.length_toList]
  obtain ⟨c, tl, hmro⟩ := F.called_set.mro
  have hmade := F.called_set.made
  have hsub := F.called_set.sub
  have h1 := F.called_set.notType
  have h2 := F.called_set.canCreate
  have hct := F.typeCall_set_1 (.ref l)
  refine wpAny_call (codeAny_of_tree ?_)
  show wpAny _ _ (callAny (.type "set") _) _ _ _
  refine wpAny_pure ⟨Code.quiet_builtin _ (by decide +kernel), codeAny_builtin F.entry_type_call ?_⟩
  rw [Around.under_plain (weight_type_call_type "set" [.ref l] []) rfl]
  repeat (any_goals (first | assumption | wp_step))
  refine codeAny_mono (code_set_led1 (.ref l) (E := E) (Q₁ := fun r s1 => r = .ref s.heap.objs.size ∧ s1 = { s with heap := s.heap.push (sObj "set" (mtSet w)) }) ⟨rfl, rfl⟩) fun r s1 q => ?_
  match r, q with
  | .error e, q => exact q
  | .ok (.ret r), q =>
    obtain ⟨rfl, rfl⟩ := q
    have hS : (s.heap.push (sObj "set" (mtSet w))).get? s.heap.objs.size = some (sObj "set" (mtSet w)) := Heap.get?_push_size _ rfl
    have hT : Shared.TypeIs { s with heap := s.heap.push (sObj "set" (mtSet w)) } (.ref s.heap.objs.size) "set" := ⟨_, hS, rfl⟩
    have hli := F.called_set.init.lookup
    have hbi := F.called_set.init.bind (.ref s.heap.objs.size)
    repeat (any_goals (first | assumption | wp_step))
    refine codeAny_mono (codeAny_call_builtin (R := wants (fun r s2 => r = .none ∧ ∃ h' tk D, s2 = { s with heap := h', toks := tk } ∧ h'.get? s.heap.objs.size = some (sObj "set" D) ∧ TxW P w D (xs.foldl addL []) ∧
      ∀ b o, s.heap.get? b = some o → h'.get? b = some o) E) F.called_set.init.plain F.entry_set_init (check_set_init_1 hT ?_)) fun r s2 q => ?_
    · obtain ⟨⟨ocls, od, odata, osl⟩, hol, hcl, nl, hdl⟩ := hl
      simp only at hcl hdl
      subst hcl hdl
      have sz1 : (s.heap.push (sObj "set" (mtSet w))).objs.size = s.heap.objs.size + 1 := Heap.size_push ..
      have hlS : l < s.heap.objs.size := Heap.lt_size hol
      have hol' : (s.heap.push (sObj "set" (mtSet w))).get? l = some { cls := .type "list", dict := od, data := .seq items nl, slots := osl } := Heap.get?_push_of_some _ hol
      have hl1 : (s.heap.push (sObj "set" (mtSet w))).IsList l items := ⟨_, hol', rfl, nl, rfl⟩
      have hsls := F.sub_list_set
      have hslf := F.sub_list_frozenset
      have hne : (Value.type "list" == Value.type "dict") = false := by decide
      unfold Builtin.«set.__init__» noKeywords Builtin.Frozenset.updateFrom
      generalize hPI : pyIter = PI
      wp_walk
      subst hPI
      refine wpAny_pyIter_list hl1 ?_
      refine wpAny_bind (wpAny_runValue ?_)
      have none3 : A.in1.in1.in1.handled = none := by simp [hh]
      have ne1 : l ≠ (s.heap.push (sObj "set" (mtSet w))).objs.size := by rw [sz1]; exact Nat.ne_of_lt (Nat.lt_succ_of_lt hlS)
      have nf : s.heap.objs.size ∉ [(s.heap.push (sObj "set" (mtSet w))).objs.size, l] := by
        intro z
        rcases List.mem_cons.mp z with e | e
        · rw [sz1] at e
          exact absurd e (Nat.ne_of_lt (Nat.lt_succ_self _))
        · exact absurd (List.mem_singleton.mp e) (Nat.ne_of_gt hlS)
      refine updTx (P := P) (w := w) (s := { s with heap := (s.heap.push (sObj "set" (mtSet w))).push { cls := .type "list_iterator", data := .fields #[.ref l, .int 0 0] } }) ((Walks.list none3 _ l ne1 items).toS) s.heap.objs.size nf xs many room ?_ ?_
        (items.size - 0) 0 _ (mtSet w) rfl (Nat.zero_le _) ⟨⟨_, Heap.get?_push_size _ rfl, rfl, rfl⟩, hl1.push _⟩ (Heap.get?_push_of_some _ hS) TxW.nil (Moved.refl fun _ => rfl)
      · intro i v hv
        have b := (Array.getElem?_eq_some_iff.mp hv).1
        obtain ⟨u, e⟩ := SS.strs_at hi i v (by rw [Array.getElem?_toList]; exact hv)
        refine ⟨xs.getD i Str.empty, u, ?_, e⟩
        rw [List.getD_eq_getElem?_getD, List.getElem?_eq_getElem (by omega : i < xs.length)] <;> rfl
      · intro s0 s3 D mv hg T e0
        subst e0
        obtain ⟨h', g', d', tk', os'⟩ := s3
        have eg : g' = s.gens := mv.gens
        have ed : d' = s.drawn := mv.drawn
        have eo : os' = s.os := mv.os
        subst eg ed eo
        show wpAny _ _ _ _ _ _
        refine wpAny_pure ?_
        show wpAny _ _ (ret Value.none) _ _ _
        refine wpAny_pure ⟨rfl, h', tk', D, rfl, hg, T, fun b o e => ?_⟩
        have b0 : b < s.heap.objs.size := Heap.lt_size e
        refine mv.heap b o (fun z => ?_) (Heap.get?_push_of_some _ (Heap.get?_push_of_some _ e))
        rcases List.mem_cons.mp z with e | e
        · exact absurd e (Nat.ne_of_lt b0)
        · have e' : b = (s.heap.push (sObj "set" (mtSet w))).objs.size := List.mem_singleton.mp e
          rw [sz1] at e'
          exact absurd e' (Nat.ne_of_lt (Nat.lt_succ_of_lt b0))
    · match r, q with
      | .error e, q => exact q
      | .ok (.ret r), q =>
        obtain ⟨rfl, h', tk, D, rfl, q1, q2, q3⟩ := q
        repeat (any_goals (first | assumption | wp_step))
        exact h _ _ D q1 q2 q3
end
/-! ### as tracked things -/
/-- the set of the texts l at a -/
def TxO (P : Program) (w : World) (a : Addr) (l : List Str) : HO := .ext fun h => ∃ D, h.get? a = some (sObj "set" D) ∧ TxW P w D l
theorem txO_new {P : Program} {w : World} {H : Hp} {h : Heap} {a : Addr} {l : List Str} {D : SD} (ho : h.get? a = some (sObj "set" D)) (T : TxW P w D l) : ObjOk P w H h a (TxO P w a l) :=
  ⟨⟨D, ho, T⟩, ⟨_, ho⟩, fun h1 h2 ⟨D', q, r⟩ k => ⟨D', k _ q, r⟩⟩
section
variable {X : Cx}
theorem txO_get {pins : List (Addr × Obj)} {σ : St} {H : Hp} {s : Shared} {a : Addr} {l : List Str} (I : Inv X pins σ H s) (ha : H a = some (TxO X.prog X.w a l)) : ∃ D, s.heap.get? a = some (sObj "set" D) ∧ TxW X.prog X.w D l := (I.hok a _ ha).1
/-- set(xs) -/
def rSetTx (K : PySem.W.Frag) (P : Program) (w : World) : List V → Hp → VK → Prop := fun vs H Q => ∃ (a : Addr) (xs : List Str), vs = [V.ref a] ∧ SqL K H a (xs.map V.str) ∧ xs.length + 1 < scanBound ∧ ∀ p, H p = none → Q (.ref p) (upd H p (TxO P w p (xs.foldl addL [])))
theorem cr_setTx (hc : X.calm = true) : CallR X (.type "set") (rSetTx X.K X.prog X.w) := by
  intro pins s σ H vs us Q I r h
  obtain ⟨a, xs, rfl, hs, hb, q⟩ := h
  obtain ⟨its, rv, pl, hz⟩ := I.list hs
  rw [Vals.ref1 r]
  refine setOfTx (I.ok.hd hc) pl.isList (xs := xs) (by simpa using rv.strs) hb fun h' tk D ho T k => ?_
  exact ⟨.ref _, _, I.laid (t' := tk) k (Nat.le_refl _) (txO_new ho T), rfl, q _ (I.hok.fresh (Nat.le_refl _))⟩
/-- sorted(found), found a set of fewer than 64 texts -/
def rSortTx (P : Program) (w : World) : List V → Hp → VK → Prop := fun vs H Q => ∃ (a : Addr) (l : List Str), vs = [V.ref a] ∧ H a = some (TxO P w a l) ∧ l.length < 64 ∧
  ∀ (ys : List Str) (p : Addr), ys.Perm l → l.Nodup → sortedS ys = true → H p = none → Q (.ref p) (upd H p (.lst (ys.map V.str)))
theorem cr_sortTx (hc : X.calm = true) : CallR X (.builtin "sorted") (rSortTx X.prog X.w) := by
  intro pins s σ H vs us Q I r h
  obtain ⟨a, l, rfl, ha, few, q⟩ := h
  obtain ⟨D, ho, T⟩ := txO_get I ha
  rw [Vals.ref1 r]
  refine sortedTx ho T (I.ok.hd hc) few fun s' p out c ys k ⟨g, o⟩ ⟨hp, hg⟩ hi pm hs => ?_
  have fits : (ys.map V.str).length ≤ sizeLine := by rw [List.length_map, pm.length_eq, sizeLine_eq]; omega
  have hn : H p = none := I.hok.fresh hp
  exact ⟨.ref p, _, I.call' (ch := []) o (Un.laid k hp hn) (I.hok.laid (o := .lst (ys.map V.str)) k hp ⟨fits, out.toList, c, vals_of_strs hi, hg⟩) (by rw [g]; exact I.bare) (fun _ z => nomatch z), rfl, q ys p pm T.nd hs hn⟩
/-- found.add(x) -/
theorem addTx_ok {pins : List (Addr × Obj)} {σ : L2.St} {H : Hp} {s : Shared} {E : Value → Shared → Prop} {D : Addr} {l : List Str} {y : Str} {u : Tok} {Q : Value → Shared → Prop} (I : Inv X pins σ H s) (hD : H D = some (TxO X.prog X.w D l)) (room : l.length + 1 < scanBound)
    (h : ∀ s', Inv X pins σ (upd H D (TxO X.prog X.w D (addL l y))) s' → Q .none s') : wpAny (model X.prog X.w) X.A (call (.builtin "set.add") [.ref D, .str y u]) Q E s := by
  obtain ⟨d, ho, T⟩ := txO_get I hD
  exact callAdd ho T room fun h' D' sb hg T' => h _ (I.write (e := D) (t' := s.toks + 1) (by rw [hD]; trivial) (.inl rfl) (fun b v nb e => (sb.2 b nb).trans e) ⟨_, hg⟩ (txO_new hg T'))
end
end L2

/-! {elt for target in iter if ..}: O the thing that the new set is tracked as, Ad what an add of a value does. -/
namespace L2
open PySem PySem.Spec PyProof.Rows PySem.Froz
/-- how one more value is added to the set at D -/
abbrev Adder := Addr → V → Hp → (Hp → Prop) → Prop
/-- a turn of it -/
def turnC (Ad : Adder) (g : TG) (tt : TT) (te : TE) (vs : List Nat) (σ : St) (D : Addr) (K : Hp → Prop) (x : V) (G : Hp) : Prop :=
  g x (wipe σ vs) G fun τ G1 => wipe τ vs = wipe σ vs ∧ tt τ G1 fun yes G2 => if yes = true then te τ G2 fun y G3 => Ad D y G3 K else K G2
/-- all turns -/
def loopC (O : Addr → HO) (Ad : Adder) (J : It) (g : TG) (tt : TT) (te : TE) (vs : List Nat) (σ : St) (G : Hp) (D : Addr) (fin : Hp → Prop) : Prop :=
  ∃ Z : Nat → Nat → Hp → Prop, (∃ m, Z 0 m (upd G D (O D))) ∧ ∀ i m G1, Z i m G1 → (J.stop i G1 ∧ fin G1) ∨ (J.go i G1 ∧ ∃ K : Hp → Prop, (∀ G2, K G2 → ∃ less, less < m ∧ Z (i + 1) less G2) ∧ ∀ x G2, J.yld i G1 x G2 → turnC Ad g tt te vs σ D K x G2)
def tCs (O : Addr → HO) (Ad : Adder) (wi : TI) (g : TG) (tt : TT) (te : TE) (vs : List Nat) : TE := fun σ G Q => wi σ G fun J G1 => ∀ D, G1 D = none → loopC O Ad J g tt te vs σ G1 D fun G2 => Q (.ref D) G2
/-- over a walk of n turns -/
theorem loopC_it {O : Addr → HO} {Ad : Adder} {J : It} {n : Nat} {Go : Hp → Prop} {Y : Nat → Hp → V → Hp → Prop} (w : Walk J n Go Y) {g : TG} {tt : TT} {te : TE} {vs : List Nat} {σ : St} {G : Hp} {D : Addr} {fin : Hp → Prop} (Pv : Nat → Hp → Prop)
    (h0 : Pv 0 (upd G D (O D))) (hG : ∀ i G1, i ≤ n → Pv i G1 → Go G1) (hs : ∀ i x G1 G2, i < n → Pv i G1 → Y i G1 x G2 → turnC Ad g tt te vs σ D (Pv (i + 1)) x G2) (hd : ∀ G1, Pv n G1 → fin G1) : loopC O Ad J g tt te vs σ G D fin := by
  refine ⟨fun i m G1 => m = n - i ∧ i ≤ n ∧ Pv i G1, ⟨n, rfl, Nat.zero_le _, h0⟩, fun i m G1 ⟨em, hi, p⟩ => ?_⟩
  subst em
  have go := hG i G1 hi p
  rcases Nat.lt_or_eq_of_le hi with lt | e
  · exact .inr ⟨w.goes i G1 lt go, Pv (i + 1), fun G2 p2 => ⟨n - (i + 1), by omega, rfl, lt, p2⟩, fun x G2 y => hs i x G1 G2 lt p (w.yields i G1 x G2 lt go y)⟩
  · subst e
    exact .inl ⟨w.stops G1 go, hd G1 p⟩
section
variable {X : Cx}
/-- what makes O and Ad right -/
structure SetLike (P : Program) (w : World) (O : Addr → HO) (Ad : Adder) : Prop where
  new : ∀ (G : Hp) (h : Heap) (D : Addr), h.get? D = some (sObj "set" (mtSet w)) → ObjOk P w G h D (O D)
  add : ∀ {X : Cx} {pins : List (Addr × Obj)} {σ : St} {G : Hp} {s : Shared} {E : Value → Shared → Prop} {D : Addr} {y : V} {v : Value} {K : Hp → Prop}, X.prog = P → X.w = w → Inv X pins σ G s → RelV y v → Ad D y G K →
    wpAny (model P w) X.A (call (.builtin "set.add") [.ref D, v]) (fun _ s' => ∃ G', Inv X pins σ G' s' ∧ K G') E s
theorem compS_core {O : Addr → HO} {Ad : Adder} (L : SetLike X.prog X.w O Ad) {pins : List (Addr × Obj)} {s : Shared} {σ : St} {G : Hp} {Q : VK} {elt tg src : Expr} {ifs : List Expr} {sc : Scope} {own : List (Str × Nat)} {at0 at1 : Pos} {wi : TI} {g : TG} {tt : TT} {te : TE} {use : Option (Value → Sem Unit)} {Qf : Value → Shared → Prop}
    (calm : X.calm = true) (nd : X.N.Nodup) (I : Inv X pins σ G s) (hi : PI X tg src wi) (ok : BlkOk X.N X.env.scope sc own)
    (gok : ∀ (s : Shared) (G : Hp) (C : Addr) (cl : List (Str × Addr)) (fp : List Addr), PG (X.blk s G sc (compEnvC sc cl C X.env) fp) tg g)
    (tok : ∀ (s : Shared) (G : Hp) (C : Addr) (cl : List (Str × Addr)) (fp : List Addr), PTs (X.blk s G sc (compEnvC sc cl C X.env) fp) ifs tt)
    (eok : ∀ (s : Shared) (G : Hp) (C : Addr) (cl : List (Str × Addr)) (fp : List Addr), PE (X.blk s G sc (compEnvC sc cl C X.env) fp) elt te)
    (raw : ∀ v, foldedSetIterable src X.env v = pure v) (h : tCs O Ad wi g tt te (own.map (·.2)) σ G Q)
    (after : ∀ D C s' m G', Inv X pins σ G' s' → Q (.ref D) G' → s'.heap.Ns C m → FpOk X pins G' C → compPost (model X.prog X.w) X.A X.xe use Qf (.ref D) C (.ok .next) s') :
    wpAny (model X.prog X.w) X.A (comprehension (.SetComp elt [⟨tg, src, ifs, 0⟩] sc at0) sc X.env at1 (newSet (.type "set")) false (eval src X.env) use) Qf X.xe s := by
  have cellsThere : ∀ y ∈ sc.names, y.2 = .free → ∃ c, X.env.cells.lookup y.1 = some c := fun y m e => (ok.free y m e).elim (fun z => I.ok.has _ (.inl z)) fun z => I.ok.has _ (.inr z)
  refine wpAny_comprehension_free (use := use) rfl raw (closure_ok cellsThere) ok.kind (fun y m e => by rw [ok.uniq y m, e]) (thn (hi.run pins s σ G _ I h) fun v1 s1 h1 => thn h1 fun v2 s2 h2 => ?_)
  obtain ⟨it, fp, tn, J, G2, rfl, I2, T, st2, f2, q⟩ := h2
  refine PpSet.newSet_ok (newEnv_comp ?_)
  generalize eD : s2.heap.objs.size = D
  have freeD : G2 D = none := I2.hok.fresh (Nat.le_of_eq eD)
  obtain ⟨Z, ⟨m0, z0⟩, turn⟩ := q D freeD
  generalize e3 : ({ s2 with heap := s2.heap.push { cls := .type "set", data := .set #[] 0 (.fresh 0 0 (!X.w.params.followText "set-order")) } } : Shared) = s3
  have h3 : s3.heap = s2.heap.push (sObj "set" (mtSet X.w)) := by rw [← e3] <;> rfl
  have I3 : Inv X pins σ (upd G2 D (O D)) s3 := by
    rw [← e3]
    exact I2.laid (t' := s2.toks) (fun b o e => Heap.get?_push_of_some _ e) (Nat.le_of_eq eD) (L.new _ _ _ (by rw [← eD]; exact Heap.get?_push_size _ rfl))
  have below : ∀ b ∈ fp, b < s2.heap.objs.size := fun b hb => let ⟨o, e, _⟩ := T.obj _ _ st2 b hb; Heap.lt_size e
  have f3 : ∀ b ∈ fp, FpOk X pins (upd G2 D (O D)) b ∧ b < s3.heap.objs.size := fun b hb => by
    have lt := below b hb
    refine ⟨⟨?_, (f2 b hb).2⟩, by rw [h3, Heap.size_push]; exact Nat.lt_succ_of_lt lt⟩
    rw [upd_ne (by rw [← eD]; exact Nat.ne_of_lt lt)]; exact (f2 b hb).1
  have st3 : tn 0 s3.heap := T.keep _ _ _ st2 fun b _ o e => by rw [h3]; exact Heap.get?_push_of_some _ e
  have I4 := block_start I3 ok nd f3
  have pg := gok s3 (upd G2 D (O D)) s3.heap.objs.size (cellsFrom (s3.heap.objs.size + 1) sc.names (cloFrom X.env.cells sc.names [])) fp
  have pt := tok s3 (upd G2 D (O D)) s3.heap.objs.size (cellsFrom (s3.heap.objs.size + 1) sc.names (cloFrom X.env.cells sc.names [])) fp
  have pe := eok s3 (upd G2 D (O D)) s3.heap.objs.size (cellsFrom (s3.heap.objs.size + 1) sc.names (cloFrom X.env.cells sc.names [])) fp
  show codeAny _ _ (.compStart (.SetComp elt [⟨tg, src, ifs, 0⟩] sc at0) 0 (.ref it) (.ref D) (compEnvC sc (cellsFrom (s3.heap.objs.size + 1) sc.names (cloFrom X.env.cells sc.names [])) s3.heap.objs.size X.env)) (compPost (model X.prog X.w) X.A X.xe use Qf (.ref D) s3.heap.objs.size) { s3 with heap := pushCells (s3.heap.push { cls := .type "dict", data := .dict #[] }) sc.names }
  have nfp : ∀ b ∈ fp, upd G2 D (O D) b = none := fun b hb => (f3 b hb).1.1
  generalize eC : compEnvC sc (cellsFrom (s3.heap.objs.size + 1) sc.names (cloFrom X.env.cells sc.names [])) s3.heap.objs.size X.env = ce at I4 pg pt pe ⊢
  have cL : ce.locals = s3.heap.objs.size := by subst eC; rfl
  generalize eG : upd G2 D (O D) = G3 at I3 I4 pg pt pe z0 nfp f3
  generalize e4 : ({ s3 with heap := pushCells (s3.heap.push { cls := .type "dict", data := .dict #[] }) sc.names } : Shared) = s4 at I4 ⊢
  have st4 : tn 0 s4.heap := T.keep _ _ _ st3 fun b _ o e => by rw [← e4]; exact pushCells_keeps _ _ _ _ (Heap.get?_push_of_some _ e)
  have inB : ∀ {τ : St} {G' : Hp} {s' : Shared}, Inv (X.blk s3 G3 sc ce fp) [] τ G' s' → (∀ b ∈ fp, G' b = none) → ∀ b ∈ fp, FpOk (X.blk s3 G3 sc ce fp) [] G' b := fun {τ G' s'} I' hn b hb =>
    ⟨hn b hb, (I'.ok.exf b hb).1, I'.ok.exfs b hb, .inl hb, fun x c e => (I'.ok.exf b hb).2 x c e, fun p hp => nomatch (show p ∈ ([] : List (Addr × Obj)) from hp)⟩
  have body : codeAny (model X.prog X.w) X.A (.compLoop (.SetComp elt [⟨tg, src, ifs, 0⟩] sc at0) 0 (.ref it) (.ref D) ce) (compPost (model X.prog X.w) X.A X.xe use Qf (.ref D) s3.heap.objs.size) s4 := by
    refine PpSet.compLoopS_any (fun n s' => ∃ i G', Inv (X.blk s3 G3 sc ce fp) [] (wipe σ (own.map (·.2))) G' s' ∧ tn i s'.heap ∧ (∀ b ∈ fp, G' b = none) ∧ Z i n G') ?_ m0 ⟨0, G3, I4, st4, nfp, z0⟩
    intro n s5 ⟨i, G5, I5, st5, n5, z5⟩
    rcases turn i n G5 z5 with ⟨stop, qq⟩ | ⟨go, K, hK, step⟩
    · refine thnF (T.done (X.blk s3 G3 sc ce fp) rfl rfl rfl calm i [] s5 _ G5 (fun _ _ => False) I5 (inB I5 n5) st5 stop) fun r s6 ⟨er, I6⟩ => ?_
      subst er
      have I7 : Inv X pins σ G5 s6 := I3.call' (ch := fp) I6.os I6.base I6.hok I6.bare fun b hb => let z := (f3 b hb).1; ⟨z.2.2.2.1, z.2.1, z.2.2.2.2.1, z.2.2.2.2.2⟩
      have nC : G5 s3.heap.objs.size = none := by rw [← cL]; exact I6.free
      obtain ⟨m, hn, _⟩ := I6.loc
      have hn' : s6.heap.Ns s3.heap.objs.size m := by rw [← cL]; exact hn
      exact after D s3.heap.objs.size s6 m G5 I7 qq hn' (I3.fpOk (Nat.le_refl _) nC)
    · refine thnF (T.item (X.blk s3 G3 sc ce fp) rfl rfl rfl calm i [] s5 _ G5 (fun _ _ => False) I5 (inB I5 n5) st5 go) fun r s6 ⟨u, er, h6⟩ => ?_
      subst er
      refine thnF h6 fun _ s7 ⟨x, G7, I7, r7, y7, st7, n7⟩ => ?_
      have I7p := I7.pinned (inB I7 n7) (T.obj _ _ st7)
      refine thnF (pg.run _ s7 _ G7 x u _ I7p r7 (step x G7 y7)) fun _ s8 ⟨τ, G8, I8, ew, q8⟩ => ?_
      refine thnF (pt.run _ s8 τ G8 _ I8 q8) fun yes s9 ⟨G9, I9, q9⟩ => ?_
      have close : ∀ {s' : Shared} {G' : Hp}, Inv (X.blk s3 G3 sc ce fp) ([] ++ pinsAt fp s7.heap) τ G' s' → K G' → ∃ m, m < n ∧ ∃ i G', Inv (X.blk s3 G3 sc ce fp) [] (wipe σ (own.map (·.2))) G' s' ∧ tn i s'.heap ∧ (∀ b ∈ fp, G' b = none) ∧ Z i m G' := fun {s' G'} I' k => by
        obtain ⟨less, lt, z'⟩ := hK G' k
        have pinned : ∀ b ∈ fp, ∀ o, s7.heap.get? b = some o → s'.heap.get? b = some o ∧ G' b = none := fun b hb o e => let z := I'.pin (b, o) (List.mem_append_right _ (List.mem_append_right _ (mem_pinsAt hb e))); ⟨z.1, z.2.1⟩
        refine ⟨less, lt, i + 1, G', (I'.unpinned (pins := [])).weak (by rw [← ew, wipe_length]) (fun j v e => by rw [← ew] at e; exact (wipe_some e).1), T.keep _ _ _ st7 fun b hb o e => (pinned b hb o e).1, fun b hb => ?_, z'⟩
        obtain ⟨o, e, _⟩ := T.obj _ _ st7 b hb
        exact (pinned b hb o e).2
      match yes, q9 with
      | false, q9 => exact close I9 q9
      | true, q9 =>
        refine thnF (pe.run _ s9 τ G9 _ I9 q9) fun z s10 ⟨y, G10, I10, r10, a10⟩ => ?_
        exact wpAny_mono (L.add (X := X.blk s3 G3 sc ce fp) rfl rfl I10 r10 a10) (fun _ s11 ⟨G11, I11, k⟩ => close I11 k) fun _ _ z => z
  exact PpSet.codeAny_compStart_set body (T.self X.A 0 _ _ _ st4 body)
theorem pe_cs {O : Addr → HO} {Ad : Adder} (L : SetLike X.prog X.w O Ad) {elt tg src : Expr} {ifs : List Expr} {sc : Scope} {own : List (Str × Nat)} {pos : Pos} {wi : TI} {g : TG} {tt : TT} {te : TE} (calm : X.calm = true) (nd : X.N.Nodup) (hi : PI X tg src wi) (ok : BlkOk X.N X.env.scope sc own)
    (gok : ∀ (s : Shared) (G : Hp) (C : Addr) (cl : List (Str × Addr)) (fp : List Addr), PG (X.blk s G sc (compEnvC sc cl C X.env) fp) tg g)
    (tok : ∀ (s : Shared) (G : Hp) (C : Addr) (cl : List (Str × Addr)) (fp : List Addr), PTs (X.blk s G sc (compEnvC sc cl C X.env) fp) ifs tt)
    (eok : ∀ (s : Shared) (G : Hp) (C : Addr) (cl : List (Str × Addr)) (fp : List Addr), PE (X.blk s G sc (compEnvC sc cl C X.env) fp) elt te) (raw : ∀ v, foldedSetIterable src X.env v = pure v := by intro _; rfl) :
    PE X (.SetComp elt [⟨tg, src, ifs, 0⟩] sc pos) (tCs O Ad wi g tt te (own.map (·.2))) :=
  ⟨fun pins s σ G Q I h => by
    rw [PpSet.eval_SetComp]
    refine compS_core L calm nd I hi ok gok tok eok raw h fun D C s' m G' I' q hn ⟨f0, f1, f2, f3, f4, f5⟩ => ⟨m, hn, fun h'' sb => ?_⟩
    exact ⟨.ref D, G', I'.turned (t' := s'.toks) (fun b o hb e => (sb.2 b hb).trans e) f0 f1 f3 f4 f5, rfl, q⟩⟩
/-! ### of texts -/
def adTx (P : Program) (w : World) : Adder := fun D y G K => ∃ k l, y = .str k ∧ G D = some (TxO P w D l) ∧ l.length + 1 < scanBound ∧ K (upd G D (TxO P w D (addL l k)))
theorem likeTx (P : Program) (w : World) : SetLike P w (fun D => TxO P w D []) (adTx P w) where
  new := fun G h D e => txO_new e TxW.nil
  add := fun {X pins σ G s E D y v K} eP ew I r h => by
    subst eP ew
    obtain ⟨k, l, rfl, e, room, q⟩ := h
    obtain ⟨u, rfl⟩ := r
    exact addTx_ok I e room fun s' I' => ⟨_, I', q⟩
end
end L2

/-! A list comprehension over a list, with a test or without: J by the turn, what is made so far, the heap. -/
namespace L2
open PySem PySem.Spec PyProof.Rows
/-- what it asks behind its iterable -/
def LcB (J : It) (i : Nat) (tt : TT) (te : TE) (ii : List Nat) (σ : L2.St) (H1 : Hp) (Q : VK) : Prop :=
  ∀ D, H1 D = none → ∃ W : Nat → Nat → Hp → Prop, (∃ m, W 0 m (upd H1 D (.lst []))) ∧ ∀ k m G, W k m G → (J.stop k G ∧ Q (.ref D) G) ∨ (J.go k G ∧ ∃ Nx : Hp → Prop, (∀ G', Nx G' → ∃ m', m' < m ∧ W (k + 1) m' G') ∧
    ∀ x G', J.yld k G x G' → gName i x (wipe σ ii) G' fun σ2 G2 => wipe σ2 ii = wipe σ ii ∧ tt σ2 G2 fun b G3 => if b = true then te σ2 G3 fun y G4 => ∃ acc, G4 D = some (.lst acc) ∧ acc.length < sizeLine ∧ Nx (upd G4 D (.lst (acc ++ [y]))) else Nx G3)
theorem lcbL {K : PySem.W.Frag} {tl te : TE} {tt : TT} {i : Nat} {ii : List Nat} {σ : L2.St} {H : Hp} {Q : VK} (h : tl σ H fun x H1 => ∃ a, x = .ref a ∧ (∃ xs, SqL K H1 a xs) ∧ LcB (Itl K a) i tt te ii σ H1 Q) : tLc (iList K tl) (gName i) tt te ii σ H Q := h
theorem lcbT {K : PySem.W.Frag} {tl te : TE} {tt : TT} {i : Nat} {ii : List Nat} {σ : L2.St} {H : Hp} {Q : VK} (h : tl σ H fun x H1 => ∃ a, x = .ref a ∧ (∃ xs, SqT K H1 a xs) ∧ LcB (Itt K a) i tt te ii σ H1 Q) : tLc (iTup K tl) (gName i) tt te ii σ H Q := h
/-- what a turn's end knows -/
structure LcN (J : Nat → List V → Hp → Prop) (H1 : Hp) (k : Nat) (acc acc' : List V) (G G' : Hp) : Prop where
  j : J (k + 1) acc' G'
  k : ∀ D, H1 D = none → G D = some (.lst acc) → G' D = some (.lst acc)
theorem lcRun {Jt : It} {n : Nat} {Go : Hp → Prop} {Y : Nat → Hp → V → Hp → Prop} (w : Walk Jt n Go Y) {i : Nat} {tt : TT} {te : TE} {ii : List Nat} {σ : L2.St} {H1 : Hp} {Q : VK} (J : Nat → List V → Hp → Prop) (hi : ii = [i]) (hl : n ≤ 100000) (hY : ∀ k G x G', Y k G x G' → G' = G)
    (go : ∀ k acc G, J k acc G → Go G) (j0 : J 0 [] H1) (st : ∀ k acc (G : Hp) D o, H1 D = none → J k acc G → J k acc (upd G D o))
    (turn : ∀ k x acc (G : Hp) (yes : V → Hp → Prop) (no : Hp → Prop), k < n → Y k G x G → acc.length ≤ k → J k acc G → (∀ y G', LcN J H1 k acc (acc ++ [y]) G G' → yes y G') → (∀ G', LcN J H1 k acc acc G G' → no G') →
      tt ((wipe σ [i]).set i (some x)) G fun b G3 => if b = true then te ((wipe σ [i]).set i (some x)) G3 yes else no G3)
    (q : ∀ D acc (G : Hp), H1 D = none → acc.length ≤ n → J n acc G → G D = some (.lst acc) → Q (.ref D) G) : LcB Jt i tt te ii σ H1 Q := by
  subst hi
  intro D hD
  refine lc_it w (fun k G => ∃ acc : List V, acc.length ≤ k ∧ J k acc G ∧ G D = some (.lst acc)) ⟨[], Nat.le_refl _, st 0 [] H1 D _ hD j0, upd_same⟩ (fun k G _ ⟨acc, _, j, _⟩ => go k acc G j) (fun k x G G' hk p hy => ?_) fun G p => ?_
  · obtain ⟨acc, al, j, c⟩ := p
    obtain rfl := hY _ _ _ _ hy
    refine ⟨by show List.set (List.set (List.set σ i none) i _) i none = List.set σ i none; rw [List.set_set, List.set_set], ?_⟩
    refine turn k x acc G' _ _ hk hy al j (fun y G4 z => ⟨acc, z.k D hD c, ?_, acc ++ [y], ?_, st _ _ _ D _ hD z.j, upd_same⟩) fun G4 z => ⟨acc, Nat.le_succ_of_le al, z.j, z.k D hD c⟩
    · exact Nat.lt_of_lt_of_le (show acc.length < 100001 by omega) (by decide)
    · rw [List.length_append]
      exact Nat.succ_le_succ al
  · obtain ⟨acc, al, j, c⟩ := p
    exact q D acc G hD al j c
/-- the same, what the list at D holds known where it is written -/
theorem lcRun2 {Jt : It} {n : Nat} {Go : Hp → Prop} {Y : Nat → Hp → V → Hp → Prop} (w : Walk Jt n Go Y) {i : Nat} {tt : TT} {te : TE} {ii : List Nat} {σ : L2.St} {H1 : Hp} {Q : VK} (J : Nat → List V → Hp → Prop) (hi : ii = [i]) (hl : n ≤ 100000) (hY : ∀ k G x G', Y k G x G' → G' = G)
    (go : ∀ k acc G, J k acc G → Go G) (j0 : ∀ D, H1 D = none → J 0 [] (upd H1 D (.lst []))) (st : ∀ k acc y (G : Hp) D, H1 D = none → G D = some (.lst acc) → J (k + 1) (acc ++ [y]) G → J (k + 1) (acc ++ [y]) (upd G D (.lst (acc ++ [y]))))
    (turn : ∀ k x acc (G : Hp) (yes : V → Hp → Prop) (no : Hp → Prop), k < n → Y k G x G → acc.length ≤ k → J k acc G → (∀ y G', LcN J H1 k acc (acc ++ [y]) G G' → yes y G') → (∀ G', LcN J H1 k acc acc G G' → no G') →
      tt ((wipe σ [i]).set i (some x)) G fun b G3 => if b = true then te ((wipe σ [i]).set i (some x)) G3 yes else no G3)
    (q : ∀ D acc (G : Hp), H1 D = none → acc.length ≤ n → J n acc G → G D = some (.lst acc) → Q (.ref D) G) : LcB Jt i tt te ii σ H1 Q := by
  subst hi
  intro D hD
  refine lc_it w (fun k G => ∃ acc : List V, acc.length ≤ k ∧ J k acc G ∧ G D = some (.lst acc)) ⟨[], Nat.le_refl _, j0 D hD, upd_same⟩ (fun k G _ ⟨acc, _, j, _⟩ => go k acc G j) (fun k x G G' hk p hy => ?_) fun G p => ?_
  · obtain ⟨acc, al, j, c⟩ := p
    obtain rfl := hY _ _ _ _ hy
    refine ⟨by show List.set (List.set (List.set σ i none) i _) i none = List.set σ i none; rw [List.set_set, List.set_set], ?_⟩
    refine turn k x acc G' _ _ hk hy al j (fun y G4 z => ?_) fun G4 z => ⟨acc, Nat.le_succ_of_le al, z.j, z.k D hD c⟩
    have c4 := z.k D hD c
    refine ⟨acc, c4, ?_, acc ++ [y], ?_, st k acc y G4 D hD c4 z.j, upd_same⟩
    · exact Nat.lt_of_lt_of_le (show acc.length < 100001 by omega) (by decide)
    · rw [List.length_append]
      exact Nat.succ_le_succ al
  · obtain ⟨acc, al, j, c⟩ := p
    exact q D acc G hD al j c
theorem yesT {te : TE} {σ : L2.St} {H : Hp} {yes : V → Hp → Prop} {no : Hp → Prop} (h : te σ H yes) : tYes σ H fun b G3 => if b = true then te σ G3 yes else no G3 := by
  show if true = true then te σ H yes else no H
  rw [if_pos rfl]
  exact h
end L2

/-! o.m(.., k = v, ..) of an instance of one of several classes. -/
namespace L2
open PySem PySem.Spec PyProof.Rows
section
variable {K : PySem.W.Frag} {x qual : Str} {params : Arguments} {body : List Stmt} {scope : Scope} {kws : List (Str × V)} {f : Addr} {fd : FuncData} {ps : List Str}
/-- a def with no defaults: n positional values, keywords named ks -/
theorem FunD.kbN (F : FunD K x qual params body scope [] kws f fd) (n : Nat) (ks : List Str) (g : {α : Type} → List α → List α → List α) (rel : ∀ {vs zs : List V} {us ws : List Value}, Vals vs us → Vals zs ws → Vals (g vs zs) (g us ws))
    (h : ∀ (kV doc pm : Value) (an : Option Addr) (cdv ct : Value) (us ws : List Value), us.length = n → ws.length = ks.length → bindArgs (PySem.W.fnOf x qual params body scope .none kV doc pm an cdv ct) ⟨us, ks.zip ws⟩ = pure (ps.zip (g us ws))) :
    KBn K fd ps n ks (fun us ws => g us ws) (fun vs zs => g vs zs) := by
  obtain ⟨oc, od, dV, kV, doc, pm, an, cdv, ct, osl, rfl, lk, hcd, hD, hK⟩ := F.ex
  rcases hD with ⟨_, e⟩ | ⟨e, _⟩
  · subst e
    exact ⟨fun s us ws _ l1 l2 => .of_eq (h kV doc pm an cdv ct us ws l1 l2), fun a b => rel a b⟩
  · exact absurd rfl e
end
/-- the self-value counts as the first positional one: n of them are written -/
def tMethK {ι : Type} (C : ι → Addr) (m : Str) (n j : Nat) (sp : ι → Sp) (gV : List V → List V → List V) (E : XK) (ta : TE) (t tk : TA) : TE := fun σ H Q => ta σ H fun x H1 => ∃ i a dx fs, x = .ref a ∧ H1 a = some (.ins (C i) dx fs) ∧ fs.lookup m = none ∧
  t σ H1 fun vs H2 => tk σ H2 fun zs H3 => vs.length = n ∧ zs.length = j ∧ sp i (gV (x :: vs) zs) H3 Q E
section
variable {X : Cx} {CX : CXT} {k n : Nat} {ι : Type} {f C : ι → Addr} {fd : ι → FuncData} {ps ks : List Str} {sp : ι → Sp} {E : XK} {m : Str} {pos apos : Pos} {e o : Expr} {es : List Expr} {kws : List Keyword} {ta : TE} {t tk : TA} {g : List Value → List Value → List Value} {gV : List V → List V → List V}
theorem pe_methK0 {pl : Sem Bool} (he : PE X o ta) (c : ∀ i, Cls X.K (C i)) (hm : ∀ i, Meth X.K (C i) m (f i)) (F : ∀ i, FnOk X.prog X.w X.K X.mg X.base CX k (f i) (fd i) ps (sp i)) (hr : Room k X.A) (hb : ∀ i, KBn X.K (fd i) ps 1 ks g gV) (hx : Passes CX X E) (hkw : PK X kws tk)
    (hall : (backToKw pos (keywordEach kws X.env)).all (·.1.isSome) = true := by rfl) (hks : (backToKw pos (keywordEach kws X.env)).filterMap (·.1) = ks := by rfl)
    (hpl : ((backTo pos (starEach [] X.env)).any (·.1) || (backToKw pos (keywordEach kws X.env)).any (·.1.isNone)) = false := by rfl)
    (ht : eval (.Call (.Attribute o m apos) [] kws pos) X.env = (do
      let ov ← eval o X.env
      standAt apos.atName
      let (f, first) ← holding [ov] (getMethod ov m pl)
      callWith pos f first (backTo pos (starEach [] X.env)) (backToKw pos (keywordEach kws X.env))) := by rfl) :
    PE X (.Call (.Attribute o m apos) [] kws pos) (tMethK C m 0 ks.length sp gV E ta tNil tk) := by
  refine ⟨fun pins s σ H Q I h => PySem.W.methodCall_KW (pl := pl) (thn (he.run pins s σ H _ I h) fun u s1 ⟨x, H1, I1, rx, i, a, dx, fs, ex, ea, l, q⟩ => ?_) ht⟩
  subst ex
  cases (show u = Value.ref a from rx)
  refine getmeth_ok I1 ea (c i) (hm i) l (PySem.W.callWith_KW0 (first := [.ref a]) (h₀ := X.base) I1.ok.mod.kin (hm i).kp hall ?_ hpl)
  refine thn (hkw.run pos pins s1 σ H1 _ I1 q) fun ws s2 ⟨zs, H2, I2, rz, _, l2, q2⟩ => ⟨I2.kIn, ?_⟩
  rw [hks]
  exact run_fnN (us := [.ref a]) (vs := [.ref a]) (F i) hr (hb i) hx I2 (.cons rfl .nil) rz rfl l2 q2
theorem pe_methK {pl : Sem Bool} (he : PE X o ta) (c : ∀ i, Cls X.K (C i)) (hm : ∀ i, Meth X.K (C i) m (f i)) (F : ∀ i, FnOk X.prog X.w X.K X.mg X.base CX k (f i) (fd i) ps (sp i)) (hr : Room k X.A) (hb : ∀ i, KBn X.K (fd i) ps (n + 1) ks g gV) (hx : Passes CX X E) (ha : PA X (e :: es) t) (hkw : PK X kws tk)
    (hall : (backToKw pos (keywordEach kws X.env)).all (·.1.isSome) = true := by rfl) (hks : (backToKw pos (keywordEach kws X.env)).filterMap (·.1) = ks := by rfl) (hst : starEach (e :: es) X.env = (false, eval e X.env) :: starEach es X.env := by rfl)
    (hpl : ((backTo pos (starEach (e :: es) X.env)).any (·.1) || (backToKw pos (keywordEach kws X.env)).any (·.1.isNone)) = false := by rfl)
    (ht : eval (.Call (.Attribute o m apos) (e :: es) kws pos) X.env = (do
      let ov ← eval o X.env
      standAt apos.atName
      let (f, first) ← holding [ov] (getMethod ov m pl)
      callWith pos f first (backTo pos (starEach (e :: es) X.env)) (backToKw pos (keywordEach kws X.env))) := by rfl) :
    PE X (.Call (.Attribute o m apos) (e :: es) kws pos) (tMethK C m n ks.length sp gV E ta t tk) := by
  refine ⟨fun pins s σ H Q I h => PySem.W.methodCall_KW (pl := pl) (thn (he.run pins s σ H _ I h) fun u s1 ⟨x, H1, I1, rx, i, a, dx, fs, ex, ea, l, q⟩ => ?_) ht⟩
  subst ex
  cases (show u = Value.ref a from rx)
  refine getmeth_ok I1 ea (c i) (hm i) l (PySem.W.callWith_KW (first := [.ref a]) (h₀ := X.base) I1.ok.mod.kin (hm i).kp hall (thn (ha.run pos pins s1 σ H1 _ I1 q) fun us s2 ⟨vs, H2, I2, r, q2⟩ => ?_) hpl hst)
  refine thn (hkw.run pos pins s2 σ H2 _ I2 q2) fun ws s3 ⟨zs, H3, I3, rz, l1, l2, q3⟩ => ⟨I3.kIn, ?_⟩
  rw [hks]
  exact run_fnN (us := .ref a :: us) (vs := .ref a :: vs) (F i) hr (hb i) hx I3 (.cons rfl r) rz (congrArg Nat.succ l1) l2 q3
theorem methK {σ : L2.St} {H : Hp} {Q : VK} {j : Nat} (h : ta σ H fun x H1 => ∃ i a dx fs, x = .ref a ∧ H1 a = some (.ins (C i) dx fs) ∧ fs.lookup m = none ∧ t σ H1 fun vs H2 => tk σ H2 fun zs H3 => vs.length = n ∧ zs.length = j ∧ sp i (gV (x :: vs) zs) H3 Q E) : tMethK C m n j sp gV E ta t tk σ H Q := h
end
end L2

/-! != of two lists whose items are equal one by one, by a == of their own: False. -/
namespace GQ
open PySem PySem.SeqAt
open AutoSeq1 (wpAny_loadPart')
open MeetsSeq MeetsSeq2 MeetsSeq3 SeqRoads2
section
variable {prog : Program} {w : World} {A : Around} {R : Result → Shared → Prop}
theorem neTurns (l b : Addr) (N : Nat) (I : Nat → Shared → Prop) (both : ListI prog w A (fun e s' => R (.error e) s') l b N I) (fin : ∀ s, I N s → R (.ok (.ret (.bool false))) s) :
    ∀ (k i : Nat), N - i = k → i ≤ N → ∀ s, I i s → wpAny (model prog w) A.in1 (Builtin.«list.__eq__.loop» ⟨[.ref l, .ref b, rawInt i, rawInt 3], []⟩) (FinOf prog w A R) (fun e s' => R (.error e) s') s
  | 0, i, hk, hi, s, h => by
    obtain ⟨xs, ys, n, n2, hx, hy, z1, z2, _⟩ := both _ _ h
    obtain rfl : i = N := by omega
    have done := fin s h
    have e1 : xs[((i : Nat) : Int).toNat]? = none := by simp; omega
    have e2 : ys[((i : Nat) : Int).toNat]? = none := by simp; omega
    obtain ⟨hp, g, d, tk, os⟩ := s
    wp_walk using wpAny_loadPart' hx, wpAny_loadPart' hy
    rw [e1, e2]
    wp_walk using wpAny_loadPart' hx, wpAny_loadPart' hy
    show R (.ok (.ret (.bool (xs.size != ys.size)))) _
    rw [z1, z2]
    simpa using done
  | k + 1, i, hk, hi, s, h => by
    obtain ⟨xs, ys, n, n2, hx, hy, z1, z2, turn⟩ := both _ _ h
    have l1 : i < xs.size := by omega
    have l2 : i < ys.size := by omega
    have step := turn l1 l2
    have e1 : xs[((i : Nat) : Int).toNat]? = some xs[i] := by simp [l1]
    have e2 : ys[((i : Nat) : Int).toNat]? = some ys[i] := by simp [l2]
    have up : ((i : Int) + 1) = ((i + 1 : Nat) : Int) := by omega
    obtain ⟨hp, g, d, tk, os⟩ := s
    wp_walk using wpAny_loadPart' hx, wpAny_loadPart' hy
    rw [e1, e2]
    refine wpAny_bind (wpAny_mono step (fun r s2 ⟨er, h2⟩ => ?_) fun _ _ x => x)
    subst er
    have next := neTurns l b N I both fin k (i + 1) (by omega) (by omega) s2 h2
    obtain ⟨hp2, g2, d2, tk2, os2⟩ := s2
    wp_walk
    rw [up]
    exact ⟨plainId_quiet plain_eq_loop _, codeAny_builtin entry_eq_loop (by rw [Around.under_plainId plain_eq_loop _]; exact next)⟩
theorem neLists (l b : Addr) (N : Nat) (I : Nat → Shared → Prop) (both : ListI prog w A (fun e s' => R (.error e) s') l b N I) (fin : ∀ s, I N s → R (.ok (.ret (.bool false))) s) {s : Shared} (h : I 0 s) :
    wpAny (model prog w) A.in1 (Builtin.«list.__ne__» ⟨[.ref l, .ref b], []⟩) (FinOf prog w A R) (fun e s' => R (.error e) s') s := by
  obtain ⟨xs, ys, n, n2, hx, hy, z1, z2, _⟩ := both _ _ h
  have run := neTurns (A := A) (R := R) l b N I both fin _ 0 rfl (Nat.zero_le _) s h
  have f3 := AutoSeq1.sub_list_list
  have ne : ¬ (xs.size != ys.size) = true := by simp [z1, z2]
  obtain ⟨hp, g, d, tk, os⟩ := s
  wp_walk using wpAny_loadPart' hx, wpAny_loadPart' hy
  exact ⟨plainId_quiet plain_eq_loop _, codeAny_builtin entry_eq_loop (by rw [Around.under_plainId plain_eq_loop _]; exact run)⟩
end
theorem rcNe {prog : Program} {w : World} {A : Around} {E : Value → Shared → Prop} {s : Shared} {l b : Addr} {N : Nat} {Q : Value → Shared → Prop} (hu : A.units < cLine) (I : Nat → Shared → Prop) (both : ListI prog w A E l b N I)
    (fin : ∀ s, I N s → Q (.bool false) s) (h : I 0 s) : wpAny (model prog w) A (richCompare .NotEq (.ref l) (.ref b)) Q E s := by
  obtain ⟨xs, ys, n, n2, hx, hy, _, _, _⟩ := both _ _ h
  refine wpAny_richCompare_same_room (op := .NotEq) ⟨_, hx, rfl⟩ ⟨_, hy, rfl⟩ F.slot_list_ne (call_here F.slot_list_ne ⟨_, hx, rfl⟩ F.entry_list_ne (F.args_list_ne_2 _ _) ?_) hu
  exact neLists (R := wants (fun v s' => v ≠ .notImplemented ∧ Q v s') E) l b N I both (fun s' q => ⟨(fun x => nomatch x), fin s' q⟩) h
end GQ
namespace L2
open PySem PySem.Spec PyProof.Rows
/-- xs != ys, lists of as many items, of which each two are equal -/
def rNeL (D : Eqw) : R2 := fun x y H Q => ∃ a b xs ys, x = .ref a ∧ y = .ref b ∧ H a = some (.lst xs) ∧ H b = some (.lst ys) ∧ xs.length = ys.length ∧ (∀ (i : Nat) u v, xs[i]? = some u → ys[i]? = some v → D u v true H) ∧ ∀ H', Ext H H' → Q (.bl false) H'
theorem op_neL {X : Cx} {n : Nat} {D : Eqw} (hD : Monw D) (h : EqW X n D) (hr : Room (n + 1) X.A) (hgu : X.A.guards = some []) : OpR X (compareOp .NotEq) (rNeL D) := by
  intro pins s σ H x y v u Q I rx ry ⟨a, b, xs, ys, ex, ey, ha, hb, hl, at_, q⟩
  subst ex ey
  cases rx
  cases ry
  have sb : Sub X (n + 1) X.A := ⟨hr, rfl⟩
  refine GQ.rcNe (N := xs.length) sb.room.units0 (fun _ s' => LoopI X pins σ H s') (fun i s' ⟨H1, I1, e1⟩ => ?_) (fun s' ⟨H1, I1, e1⟩ => ⟨.bl false, H1, I1, rfl, q H1 e1⟩) ⟨H, I, Ext.rfl'⟩
  obtain ⟨z, its, k, r, e⟩ := I1.hok a _ (e1 _ _ ha)
  obtain ⟨z2, its2, k2, r2, e2⟩ := I1.hok b _ (e1 _ _ hb)
  refine ⟨its.toArray, its2.toArray, k, k2, e, e2, by rw [List.size_toArray, ← r.length], by rw [List.size_toArray, ← r2.length, ← hl], fun h1 h2 => ?_⟩
  have i1 : i < its.length := by simpa using h1
  have i2 : i < its2.length := by simpa using h2
  have j1 : i < xs.length := by rw [r.length]; exact i1
  have j2 : i < ys.length := by rw [r2.length]; exact i2
  obtain ⟨p, hp, rp⟩ := r.get (List.getElem?_eq_getElem j1)
  obtain ⟨p2, hp2, rp2⟩ := r2.get (List.getElem?_eq_getElem j2)
  have g1 : its.toArray[i] = p := by
    rw [List.getElem?_eq_getElem i1] at hp
    simpa using hp
  have g2 : its2.toArray[i] = p2 := by
    rw [List.getElem?_eq_getElem i2] at hp2
    simpa using hp2
  rw [g1, g2]
  refine wpAny_mono (h X.A.in1 pins s' σ H1 _ _ true p p2 hgu sb.in1 I1 rp rp2 (hD _ _ _ _ _ e1 (at_ i _ _ (List.getElem?_eq_getElem j1) (List.getElem?_eq_getElem j2)))) (fun c s2 z => ?_) fun _ _ x => x
  obtain ⟨hc, H2, I2, e2⟩ := z
  exact ⟨hc, H2, I2, e1.trans e2⟩
end L2

/-! for in a generator's body. -/
namespace PySem
open Sem (wp)
section
variable {M : Model} {A : Around} {R : GenEnd} {Y : Protocol} {n : Nat} {s₀ : Shared} {c : Code} {fs : List Frame} {s : Shared} {env : Env}
  {K : Flow → Sem Fin} {H : Value → Sem Fin} {gd : Bool → Bool} {lv : List Value → List Value}
theorem seg_bw {α β : Type} {m : Sem α} {k : α → Sem β} {K : β → Sem Fin}
    (h : wpAny M (A.over c fs) m (fun a s' => Seg M A R Y n s₀ c ((k a).wrap K H gd lv) fs s') (fun x s' => Seg M A R Y n s₀ c (H x) fs s') s) :
    Seg M A R Y n s₀ c ((m >>= k).wrap K H gd lv) fs s := by
  rw [Sem.bind_eq_wrap', Sem.wrap_wrap]
  exact seg_wrap h
theorem seg_For {target iter : Expr} {body orelse : List Stmt} {pos : Pos}
    (h : wpAny M (A.over c fs) (eval iter env) (fun x s1 => wpAny M (A.over c fs) (pyIter x) (fun it s2 => ∀ p, Seg M A R Y n s₀ (.forLoop target it body orelse env) (M.den (.forLoop target it body orelse env))
      (.ret (fun r => ((match r with | .ok f => (.pure f : Sem Flow) | .error e => .raise e).onRaise fun (x : Value) => do
        if (← field x 1) == Value.none then unsupported "frame.own-activation:exception-without-traceback"
        setFlight x env.frame).wrap K H gd lv) none (gd false) (lv []) c p [] :: fs) s2) (fun x s' => Seg M A R Y n s₀ c (H x) fs s') s1) (fun x s' => Seg M A R Y n s₀ c (H x) fs s') s)
    (hs : ∀ x, foldedSetIterable iter env x = pure x := by intro _; rfl) :
    Seg M A R Y n s₀ c ((exec (.For target iter body orelse pos) env).wrap K H gd lv) fs s := by
  rw [exec_For]
  refine seg_bw (wpAny_standAt (seg_bw (wpAny_mono h (fun x s1 h1 => ?_) fun _ _ z => z)))
  refine seg_bw (wpAny_of_eq (hs x) (seg_bw (wpAny_standAt (seg_bw (wpAny_holding (wpAny_mono h1 (fun it s2 h2 => ?_) fun _ _ z => z))))))
  exact seg_call h2
end
end PySem
namespace PySem
open Sem (wp)
section
variable {prog : Program} {w : World} {A : Around} {R : GenEnd} {Y : Protocol} {n : Nat} {s₀ : Shared} {fs : List Frame} {s : Shared} {env : Env}
abbrev loopErr (env : Env) (e : Value) : Sem Fin := (do noteFrame e env; theTreesLotGoes e : Sem Unit).wrap (fun _ => .raise e) .raise id id
theorem seg_forLoop {target : Expr} {it : Value} {body : List Stmt}
    (h : wpAny (model prog w) (A.over (.forLoop target it body [] env) fs) (pyNext it) (fun r s1 => match r with
        | none => Seg (model prog w) A R Y n s₀ (.forLoop target it body [] env) (.pure (.again (.block [] env))) fs s1
        | some v => wpAny (model prog w) (A.over (.forLoop target it body [] env) fs) (letOwnedTupleGo target it v) (fun _ s2 => wpAny (model prog w) (A.over (.forLoop target it body [] env) fs) (assign target env v) (fun _ s3 =>
            Seg (model prog w) A R Y n s₀ (.forLoop target it body [] env) ((execs body env).wrap (fun f => match f with
              | .next | .cont => .pure (.again (.forLoop target it body [] env))
              | .brk => .pure (.done .next)
              | .ret v => .pure (.done (.ret v))) (loopErr env) id id) fs s3) (fun x s' => Seg (model prog w) A R Y n s₀ (.forLoop target it body [] env) (loopErr env x) fs s') s2) (fun x s' => Seg (model prog w) A R Y n s₀ (.forLoop target it body [] env) (loopErr env x) fs s') s1)
      (fun x s' => Seg (model prog w) A R Y n s₀ (.forLoop target it body [] env) (loopErr env x) fs s') s) :
    Seg (model prog w) A R Y n s₀ (.forLoop target it body [] env) ((model prog w).den (.forLoop target it body [] env)) fs s := by
  show Seg _ A R Y n s₀ _ ((forTurn target it body [] env).onRaise (fun x => do noteFrame x env; theTreesLotGoes x)) fs s
  unfold forTurn
  rw [Sem.onRaise_eq_wrap]
  have eh : ∀ e, ((do noteFrame e env; theTreesLotGoes e : Sem Unit).bind fun _ => (.raise e : Sem Fin)) = loopErr env e := fun e => Sem.bind_eq_wrap _ _
  refine seg_bw (wpAny_standAt ?_)
  refine seg_bw (wpAny_onRaise (wpAny_mono h (fun r s1 h1 => ?_) fun x s' hx => wpAny_standAt ?_))
  · cases r with
    | none => exact h1
    | some v =>
      refine seg_bw (wpAny_mono h1 (fun _ s2 h2 => ?_) fun x s' hx => by rw [eh]; exact hx)
      refine seg_bw (wpAny_mono h2 (fun _ s3 h3 => ?_) fun x s' hx => by rw [eh]; exact hx)
      rw [Sem.bind_eq_wrap', Sem.wrap_wrap]
      rw [Sem.wrap_congr (execs body env) _ _ (K' := fun f => match f with
              | .next | .cont => .pure (.again (.forLoop target it body [] env))
              | .brk => .pure (.done .next)
              | .ret v => .pure (.done (.ret v))) (H' := loopErr env) (fun f => by cases f <;> rfl) (fun e => by exact eh e)]
      exact h3
  · rw [eh]
    exact hx
theorem seg_block {stmts : List Stmt} (h : Seg (model prog w) A R Y n s₀ (.block stmts env) ((execs stmts env).wrap (fun f => .pure (.done f)) (loopErr env) id id) fs s) :
    Seg (model prog w) A R Y n s₀ (.block stmts env) ((model prog w).den (.block stmts env)) fs s := by
  show Seg _ A R Y n s₀ _ ((execs stmts env).onRaise (fun x => do noteFrame x env; theTreesLotGoes x) >>= fun f => .pure (.done f)) fs s
  rw [Sem.onRaise_eq_wrap, Sem.bind_eq_wrap', Sem.wrap_wrap]
  rw [Sem.wrap_congr (execs stmts env) _ _ (K' := fun f => (.pure (.done f) : Sem Fin)) (H' := loopErr env) (fun f => by rfl) (fun e => by
    show ((do noteFrame e env; theTreesLotGoes e : Sem Unit).bind fun _ => (.raise e : Sem Flow)).wrap _ _ _ _ = _
    rw [Sem.bind_eq_wrap, Sem.wrap_wrap] <;> rfl)]
  exact h
end
end PySem
namespace L2
open PySem PySem.Spec PyProof.Rows GenW
def tGFor (wi : TI) (g : TG) (tb : TGn) : TGn := fun D ys σ H => wi σ H fun J H1 => ∃ W : Nat → Nat → List V → St → Hp → Prop, (∃ m, W 0 m ys σ H1) ∧ ∀ i m ys σ H, W i m ys σ H →
  (J.stop i H ∧ D.nx ys σ H) ∨ (J.go i H ∧ ∃ N : List V → St → Hp → Prop, (∀ ys' σ' H', N ys' σ' H' → ∃ m', m' < m ∧ W (i + 1) m' ys' σ' H') ∧ ∀ x H', J.yld i H x H' → g x σ H' fun σ2 H2 => tb { D with nx := N, ct := N, bk := D.nx } ys σ2 H2)
section
variable {X : Cx} {tg : Expr}
theorem gs_for {iter : Expr} {body : List Stmt} {wi : TI} {g : TG} {tb : TGn} {pos : Pos} (hp : PassesOwn (model X.prog X.w) X.A X.env X.xe) (hc : X.calm = true) (hi : PI X tg iter wi) (hg : PG X tg g) (hb : GSs X body tb)
    (hs : ∀ x, foldedSetIterable iter X.env x = pure x := by intro _; rfl) : GS X (.For tg iter body [] pos) (tGFor wi g tb) := by
  refine ⟨fun A S ip R n ys s₀ c fs K J gd lv s σ H D gc hn k hI ht => ?_⟩
  obtain ⟨acc, cc, r, I⟩ := hI
  refine seg_For ?_ hs
  rw [gc.over]
  refine wpAny_mono (hi.run _ s σ H _ I ht) (fun v s1 h1 => wpAny_mono h1 (fun itv s2 h2 => ?_) fun x s' hx => k.exc n s₀ x s' hx) fun x s' hx => k.exc n s₀ x s' hx
  obtain ⟨it, fp, tn, Jt, H2, e, I2, T, st2, f2, W, ⟨m0, w0⟩, turn⟩ := h2
  subst e
  intro p
  have gl := fun (kk : Result → Sem PySem.Fin) => gc_loop (k := kk) (c' := .forLoop tg (.ref it) body [] X.env) (l := lv []) (kp := []) (p := p) gc rfl rfl
  have stat : ∀ {H' : Hp} (a' : Array Value) (c' : Nat), (∀ b ∈ fp, H' b = none) → ∀ b ∈ fp, FpOk X ((S, lstObj a' c') :: ip) H' b := fun a' c' hn b hb => by
    obtain ⟨_, f1, f3, f4, f5, f6⟩ := f2 b hb
    refine ⟨hn b hb, f1, f3, f4, f5, fun q hq => ?_⟩
    rcases List.mem_append.mp hq with hq | hq
    · exact f6 q (List.mem_append_left _ hq)
    · rcases List.mem_cons.mp hq with hq | hq
      · rw [hq]
        exact f6 (S, lstObj acc cc) (List.mem_append_right _ List.mem_cons_self)
      · exact f6 q (List.mem_append_right _ (List.mem_cons_of_mem _ hq))
  have loop : ∀ (m n i : Nat) (ys : List V) (s₀ s : Shared) (σ : St) (H : Hp), n + ys.length = sizeLine → W i m ys σ H → GI X S ip ys σ H s → tn i s.heap → (∀ b ∈ fp, H b = none) →
      Seg (model X.prog X.w) A R (GY X S) n s₀ (.forLoop tg (.ref it) body [] X.env) ((model X.prog X.w).den (.forLoop tg (.ref it) body [] X.env))
        (.ret (fun r => ((match r with | .ok f => (.pure f : Sem Flow) | .error e => .raise e).onRaise (cameBack X.env)).wrap K J gd lv) none (gd false) (lv []) c p [] :: fs) s := by
    intro m
    induction m using Nat.strongRecOn with
    | ind m ih =>
      intro n i ys s₀ s σ H hn w hI st fr
      have ee : ∀ (n : Nat) (s₀ : Shared) (x : Value) (s' : Shared), X.xe x s' → Seg (model X.prog X.w) A R (GY X S) n s₀ (.forLoop tg (.ref it) body [] X.env) (loopErr X.env x)
          (.ret (fun r => ((match r with | .ok f => (.pure f : Sem Flow) | .error e => .raise e).onRaise (cameBack X.env)).wrap K J gd lv) none (gd false) (lv []) c p [] :: fs) s' := fun n s₀ x s' hx => by
        refine seg_wrap ?_
        rw [(gl _).over]
        refine wpAny_bind (wpAny_mono (hp x s' hx) (fun _ s'' hcb => wpAny_theTreesLotGoes ?_) fun y s'' hcb => ?_)
        · exact seg_leaf (.error x) (seg_cameBack gc k hcb)
        · exact seg_leaf (.error y) (seg_cameBack gc k hcb)
      refine seg_forLoop ?_
      rw [(gl _).over]
      obtain ⟨acc1, cc1, r1, I1⟩ := hI
      rcases turn i m ys σ H w with ⟨stop, qn⟩ | ⟨go, N, hN, step⟩
      · refine wpAny_mono (T.done X rfl rfl rfl hc i _ s σ H X.xe I1 (stat _ _ fr) st stop) (fun rr s4 ⟨hr, I4⟩ => ?_) fun x s' hx => ee n s₀ x s' hx
        subst hr
        exact seg_again rfl (seg_block (seg_execs_nil (seg_leaf (.ok .next) (k.ok n ys s₀ s4 .next hn ⟨σ, H, ⟨acc1, cc1, r1, I4⟩, qn⟩))))
      · refine wpAny_mono (T.item X rfl rfl rfl hc i _ s σ H X.xe I1 (stat _ _ fr) st go) (fun rr s4 ⟨u, hr, h4⟩ => ?_) fun x s' hx => ee n s₀ x s' hx
        subst hr
        refine wpAny_mono h4 (fun _ s5 ⟨x, H5, I5, r5, y5, st5, fr5⟩ => ?_) fun x s' hx => ee n s₀ x s' hx
        have I5' := I5.pinned (stat _ _ fr5) (T.obj _ _ st5)
        refine wpAny_mono (hg.run _ s5 σ H5 x u _ I5' r5 (step x H5 y5)) (fun _ s6 ⟨σ6, H6, I6, q6⟩ => ?_) fun x s' hx => ee n s₀ x s' hx
        have hip : ∀ q ∈ ip ++ pinsAt fp s5.heap, q.1 ≠ S := fun q hq => by
          rcases List.mem_append.mp hq with hq | hq
          · exact gc.ip q hq
          · obtain ⟨hb, _⟩ := of_pinsAt hq
            obtain ⟨_, _, _, _, _, f6⟩ := f2 q.1 hb
            exact Ne.symm (f6 (S, lstObj acc cc) (List.mem_append_right _ List.mem_cons_self))
        have glI : GC X S (ip ++ pinsAt fp s5.heap) A (.forLoop tg (.ref it) body [] X.env) (.ret (fun r => ((match r with | .ok f => (.pure f : Sem Flow) | .error e => .raise e).onRaise (cameBack X.env)).wrap K J gd lv) none (gd false) (lv []) c p [] :: fs) id :=
          ⟨gc.pn, hip, gc.apart, (gl _).over, (gl _).split, (gl _).guard, rfl⟩
        have un : ∀ {ys' : List V} {σ' : St} {H' : Hp} {s' : Shared}, GI X S (ip ++ pinsAt fp s5.heap) ys' σ' H' s' → GI X S ip ys' σ' H' s' ∧ tn (i + 1) s'.heap ∧ ∀ b ∈ fp, H' b = none := fun {ys' σ' H' s'} hG => by
          obtain ⟨a3, c3, r3, J3⟩ := hG
          refine ⟨⟨a3, c3, r3, Inv.unpinned (pins := (S, lstObj a3 c3) :: ip) (pl := pinsAt fp s5.heap) J3⟩, T.keep _ _ _ st5 fun b hb o e => (J3.pin (b, o) (List.mem_append_right _ (List.mem_cons_of_mem _ (List.mem_append_right _ (mem_pinsAt hb e))))).1, fun b hb => ?_⟩
          obtain ⟨o, e, d⟩ := T.obj _ _ st5 b hb
          exact (J3.pin (b, o) (List.mem_append_right _ (List.mem_cons_of_mem _ (List.mem_append_right _ (mem_pinsAt hb e))))).2.1
        refine hb.run A S (ip ++ pinsAt fp s5.heap) R n ys s₀ _ _ _ _ id id s6 σ6 H6 { D with nx := N, ct := N, bk := D.nx } glI hn ⟨fun n' ys' s₀' s3 f hn' hs => ?_, fun n' s₀' x s3 hx => ee n' s₀' x s3 hx⟩ ⟨acc1, cc1, r1, I6⟩ q6
        cases f with
        | next =>
          obtain ⟨σ3, H3, I3, n3⟩ := hs
          obtain ⟨m', hm, w3⟩ := hN ys' σ3 H3 n3
          obtain ⟨u1, u2, u3⟩ := un I3
          exact seg_again rfl (ih m' hm n' (i + 1) ys' s₀' s3 σ3 H3 hn' w3 u1 u2 u3)
        | cont =>
          obtain ⟨σ3, H3, I3, n3⟩ := hs
          obtain ⟨m', hm, w3⟩ := hN ys' σ3 H3 n3
          obtain ⟨u1, u2, u3⟩ := un I3
          exact seg_again rfl (ih m' hm n' (i + 1) ys' s₀' s3 σ3 H3 hn' w3 u1 u2 u3)
        | brk =>
          obtain ⟨σ3, H3, I3, n3⟩ := hs
          exact seg_leaf (.ok .next) (k.ok n' ys' s₀' s3 .next hn' ⟨σ3, H3, (un I3).1, n3⟩)
        | ret v =>
          obtain ⟨v3, σ3, H3, I3, r3, n3⟩ := hs
          exact seg_leaf (.ok (.ret v)) (k.ok n' ys' s₀' s3 (.ret v) hn' ⟨v3, σ3, H3, (un I3).1, r3, n3⟩)
  exact loop m0 n 0 ys s₀ s2 σ H2 hn w0 ⟨acc, cc, r, I2⟩ st2 fun b hb => (f2 b hb).1
end
end L2

namespace L2
open PySem PySem.Spec PyProof.Rows GenW
theorem gfor_it {J : It} {n : Nat} {G : Hp → Prop} {Y : Nat → Hp → V → Hp → Prop} (w : Walk J n G Y) {g : TG} {tb : TGn} {D : GEnds} {ys : List V} {σ : St} {H : Hp} (Pv : Nat → List V → St → Hp → Prop) (h0 : Pv 0 ys σ H) (hG : ∀ i ys σ H, i ≤ n → Pv i ys σ H → G H)
    (hs : ∀ i x ys σ H H', i < n → Pv i ys σ H → Y i H x H' → g x σ H' fun σ2 H2 => tb { D with nx := Pv (i + 1), ct := Pv (i + 1), bk := D.nx } ys σ2 H2) (hd : ∀ ys σ H, Pv n ys σ H → D.nx ys σ H) :
    ∃ W : Nat → Nat → List V → St → Hp → Prop, (∃ m, W 0 m ys σ H) ∧ ∀ i m ys σ H, W i m ys σ H →
      (J.stop i H ∧ D.nx ys σ H) ∨ (J.go i H ∧ ∃ N : List V → St → Hp → Prop, (∀ ys' σ' H', N ys' σ' H' → ∃ m', m' < m ∧ W (i + 1) m' ys' σ' H') ∧ ∀ x H', J.yld i H x H' → g x σ H' fun σ2 H2 => tb { D with nx := N, ct := N, bk := D.nx } ys σ2 H2) := by
  refine ⟨fun i m ys σ H => m = n - i ∧ i ≤ n ∧ Pv i ys σ H, ⟨n, by simp, Nat.zero_le _, h0⟩, ?_⟩
  rintro i m ys σ H ⟨rfl, hi, p⟩
  have q := hG i ys σ H hi p
  by_cases hlt : i < n
  · exact .inr ⟨w.goes i H hlt q, Pv (i + 1), fun ys' σ' H' p' => ⟨n - (i + 1), by omega, rfl, hlt, p'⟩, fun x H' y => hs i x ys σ H H' hlt p (w.yields i H x H' hlt q y)⟩
  · have e : i = n := by omega
    subst e
    exact .inl ⟨w.stops H q, hd ys σ H p⟩
abbrev GForG (J : It) (g : TG) (tb : TGn) (D : GEnds) (ys : List V) (σ : St) (H1 : Hp) : Prop := ∃ W : Nat → Nat → List V → St → Hp → Prop, (∃ m, W 0 m ys σ H1) ∧ ∀ i m ys σ H, W i m ys σ H →
  (J.stop i H ∧ D.nx ys σ H) ∨ (J.go i H ∧ ∃ N : List V → St → Hp → Prop, (∀ ys' σ' H', N ys' σ' H' → ∃ m', m' < m ∧ W (i + 1) m' ys' σ' H') ∧ ∀ x H', J.yld i H x H' → g x σ H' fun σ2 H2 => tb { D with nx := N, ct := N, bk := D.nx } ys σ2 H2)
theorem tg_forEA {K : PySem.W.Frag} {t : TA} {g : TG} {tb : TGn} {D : GEnds} {ys : List V} {σ : St} {H : Hp} (h : t σ H fun vs H1 => ∃ a xs, vs = [.ref a] ∧ ((SqL K H1 a xs ∧ GForG (Ite K a) g tb D ys σ H1) ∨ (SqT K H1 a xs ∧ GForG (Itet K a) g tb D ys σ H1))) : tGFor (iEnumA K t) g tb D ys σ H := h
theorem tg_then {t u : TGn} {D : GEnds} {ys : List V} {σ : St} {H : Hp} (h : t { D with nx := fun ys' σ' H' => u D ys' σ' H' } ys σ H) : tGThen t u D ys σ H := h
theorem tg_yield {te : TE} {D : GEnds} {ys : List V} {σ : St} {H : Hp} (h : ys.length < sizeLine ∧ te σ H fun x H1 => D.nx (ys ++ [x]) σ H1) : tGYield te D ys σ H := h
/-- o.m() of a generator method, the class is one of several -/
def tMethGI {ι : Type} (C : ι → Addr) (m : Str) (sp : ι → SpG) (dvs : List V) (E : XK) (ta : TE) : TGen := fun σ H cont => ta σ H fun x H1 => ∃ i a dx fs, x = .ref a ∧ H1 a = some (.ins (C i) dx fs) ∧ fs.lookup m = none ∧ sp i (x :: dvs) H1 cont E
theorem pgen_methI0 {ι : Type} {X : Cx} {C : ι → Addr} {f : ι → Addr} {fd : ι → FuncData} {ps : List Str} {sp : ι → SpG} {k : Nat} {o : Expr} {ta : TE} {m : Str} {ds : List Value} {dvs : List V} {apos pos' : Pos} {E : XK} {pl : Sem Bool} (he : PE X o ta) (c : ∀ i, Cls X.K (C i)) (hm : ∀ i, Meth X.K (C i) m (f i)) (F : ∀ i, GFn X.prog X.w X.K X.mg X.base k (f i) (fd i) ps (sp i)) (hr : Room k X.A) (hb : ∀ i, Binds X.K (fd i) ps ds) (hd : Vals dvs ds)
    (ht : eval (.Call (.Attribute o m apos) [] [] pos') X.env = (do
      let ov ← eval o X.env
      standAt apos.atName
      let (f, first) ← holding [ov] (getMethod ov m pl)
      callWith pos' f first (backTo pos' (starEach [] X.env)) (backToKw pos' (keywordEach [] X.env))) := by rfl) :
    PGen X k (.Call (.Attribute o m apos) [] [] pos') (tMethGI C m sp dvs E ta) E := by
  refine ⟨fun pins s σ H cont I h => ?_⟩
  refine PySem.W.methodCall_KW (pl := pl) (thn (he.run pins s σ H _ I h) fun u s1 ⟨x, H1, I1, rx, i, a, dx, fs, ex, ea, l, q⟩ => ?_) ht
  subst ex
  obtain rfl : u = Value.ref a := rx
  refine getmeth_ok I1 ea (c i) (hm i) l ?_
  exact PySem.W.callWith_K0 (first := [.ref a]) I1.kIn (hm i).kp (run_gfn (us := [.ref a]) (vs := [.ref a]) (F i) hr (hb i) hd I1 (.cons rfl .nil) q)
end L2
namespace K12
open PySem PySem.Spec PyProof.Rows L2
local macro_rules | `(tactic| walk_at "rd1") => `(tactic| first
  | (with_reducible refine Rd.seq ?_) | (with_reducible refine Rd.asg ?_) | (with_reducible refine Rd.ret ?_) | (with_reducible refine Rd.nxt ?_) | (with_reducible refine Rd.ifS ?_)
  | (with_reducible refine Rd.op ?_) | (with_reducible refine Rd.un ?_) | (with_reducible refine Rd.cb ?_) | (with_reducible refine Rd.cons ?_) | (with_reducible refine Rd.nil ?_) | (with_reducible refine Rd.ifx ?_)
  | (with_reducible refine Rd.test ?_) | (with_reducible refine Rd.testB ?_) | (with_reducible refine Rd.notT ?_) | (with_reducible refine Rd.isB ?_) | (with_reducible refine Rd.lst ?_) | (with_reducible refine Rd.tup ?_)
  | (with_reducible refine Rd.andV ?_) | (with_reducible refine Rd.orV ?_) | (with_reducible refine Rd.notV ?_) | (with_reducible refine Rd.andT ?_) | (with_reducible refine Rd.orT ?_) | (with_reducible refine Rd.chain ?_)
  | (with_reducible refine Rd.m0 ?_) | (with_reducible refine Rd.m1 ?_) | (with_reducible refine Rd.bm0 ?_) | (with_reducible refine Rd.bm ?_) | (with_reducible refine Rd.sl ?_) | (with_reducible refine Rd.part ?_) | (with_reducible refine Rd.part0 ?_) | (with_reducible refine Rd.isI ?_)
  | (with_reducible refine Rd.fmt ?_) | (with_reducible refine Rd.fmtRD ?_) | (with_reducible refine Rd.meth ?_) | (with_reducible refine makeG ?_) | (with_reducible refine Rd.prop ?_) | (with_reducible refine Rd.js ?_) | (with_reducible refine Rd.js0 ?_) | (with_reducible refine Rd.par ?_) | (with_reducible refine Rd.star ?_) | (with_reducible refine lcR1 ?_) | (with_reducible refine lcR2 ?_) | (with_reducible refine Rd.fld ?_) | (with_reducible refine Rd.sfld ?_) | (with_reducible refine Rd.expr ?_) | (with_reducible refine L2.isNR ?_) | (with_reducible refine L2.methI ?_) | (with_reducible refine Rd.forZ ?_)
  | (with_reducible refine Rd.forEA ?_) | (with_reducible refine Rd.forR1 ?_) | (with_reducible refine Rd.forR2 ?_) | (with_reducible refine Rd.forL ?_) | (with_reducible refine Rd.forT ?_)
  | (with_reducible refine Rd.call ?_) | (with_reducible refine Rd.asgG ?_) | (with_reducible refine Rd.gNm ?_) | (with_reducible refine Rd.gSb ?_) | (with_reducible refine Rd.gC ?_) | (with_reducible refine Rd.gN ?_)
  | ((with_reducible refine' Rd.var ?hv ?_); (case hv => exact rfl)) | (with_reducible refine Rd.c ?_) | (with_reducible refine Rd.i0 ?_) | (with_reducible refine Rd.neg ?_)
  | ((with_reducible refine' Rd.iC ?hc ?_); (case hc => first | (show (0 : Int) < _; decide) | exact ⟨by decide, by decide⟩ | exact ⟨by decide, by decide, by decide⟩ | exact .inl ⟨by decide, by decide⟩ | exact .inr ⟨by decide, by decide⟩ | exact .inl ⟨by omega, by omega⟩ | (show (0 : Int) < _; omega) | exact ⟨by omega, by omega⟩))
  | ((with_reducible refine' Rd.eqS ?hc ?_); (case hc => rfl)) | ((with_reducible refine' Rd.neS ?hc ?_); (case hc => rfl)))
local macro_rules | `(tactic| walk_at "rd") => `(tactic| repeat walk_at "rd1")
def NodeAt (H : Hp) (u : V) (i : Nat) (v : V) : Prop := ∃ t, u = .ref t ∧ H t = some (.tup [natV i, v])
/-- the nodes with their numbers, from i on -/
def NdsAt (H : Hp) : Nat → List V → List V → Prop
  | _, [], [] => True
  | i, u :: us, v :: vs => NodeAt H u i v ∧ NdsAt H (i + 1) us vs
  | _, _, _ => False
theorem NdsAt.same {H H' : Hp} (s : Same H H') : ∀ {i : Nat} {us vs : List V}, NdsAt H i us vs → NdsAt H' i us vs
  | _, [], [], _ => trivial
  | _, _ :: _, _ :: _, ⟨⟨t, e, ht⟩, h⟩ => ⟨⟨t, e, s _ _ ht⟩, NdsAt.same s h⟩
  | _, [], _ :: _, h => h.elim
  | _, _ :: _, [], h => h.elim
theorem NdsAt.snoc {H : Hp} {u v : V} : ∀ {i : Nat} {us vs : List V}, NdsAt H i us vs → NodeAt H u (i + us.length) v → NdsAt H i (us ++ [u]) (vs ++ [v])
  | _, [], [], _, h => ⟨h, trivial⟩
  | i, _ :: us, _ :: _, h, hx => ⟨h.1, NdsAt.snoc h.2 (by rw [List.length_cons] at hx; rw [show i + 1 + us.length = i + (us.length + 1) by omega]; exact hx)⟩
  | _, [], _ :: _, h, _ => h.elim
  | _, _ :: _, [], h, _ => h.elim
theorem NdsAt.len {H : Hp} : ∀ {i : Nat} {us vs : List V}, NdsAt H i us vs → us.length = vs.length
  | _, [], [], _ => rfl
  | _, _ :: _, _ :: _, h => congrArg (· + 1) (NdsAt.len h.2)
  | _, [], _ :: _, h => h.elim
  | _, _ :: _, [], h => h.elim
abbrev sNodes : Stmt := sMeth iFormula 2
def spNodes (K : PySem.W.Frag) (c : Cs) (n : Nat) : SpG := fun vs H cont _ => ∃ (f : Fm) (v : V) (l : List V), vs = [v] ∧ FmAt K c H f v l ∧ Okf f ∧ f.ht ≤ n ∧ f.q.1 ≤ 1000 ∧ ∀ us H', Kf K c H H' → NdsAt H' 0 us l → cont us H'
section
variable {P : Program} {w : World} {K : PySem.W.Frag} {mg : Str → Option Value} {base : Heap} {c : Cs} {f fE : Addr} {fd fdE : FuncData}
theorem gscNodes : GScope ["self", "number", "node"] ["self"] (defScope sNodes) := ⟨rfl, rfl, rfl, by decide +kernel, rfl, by decide +kernel, by decide +kernel⟩
theorem ok_nodes {n : Nat} (F : FunD K "nodes" "Formula.nodes" (defArgs sNodes) (defBody sNodes) (defScope sNodes) [] [] f fd) (T : Cl K c) (mE : ∀ g, Meth K (clsOf c g) "_every" fE) (GE : FnOk P w K mg base CX0 (n + 1) fE fdE ["self"] (spEvery K c n)) (bE : Binds K fdE ["self"] []) (gEn : mg "enumerate" = none) :
    GFn P w K mg base (n + 2) f fd ["self"] (spNodes K c n) := by
  obtain ⟨oc, od, dV, kV, doc, pm, an, cdv, ct, osl, rfl, lk, hcd, _, _⟩ := F.ex
  refine gfn_of lk hcd gscNodes (fun vs H Q E h => ?_) fun A outer s H vs Q E pn hr h => ?_
  · obtain ⟨g, v, l, rfl, _⟩ := h
    rfl
  · obtain ⟨g, v, l, rfl, hf, og, ht, few, q⟩ := h
    have nd := gscNodes.nd
    refine ⟨_, gss_cons (gs_for owns_gcx rfl (pi_enumA rfl gEn (pa_cons (pe_inj (pe_methI0 (ι := Fm) (C := clsOf c) (f := fun _ => fE) (fd := fun _ => fdE) (sp := fun _ => spEvery K c n) (pv 0) (fun i => (T.at_ i).cl) mE (fun _ => GE) hr (fun _ => bE) .nil pass0)) pa_nil)) (pg_tup rfl (pgs_cons (pg_name (i := 1) nd rfl (Or.inl rfl)) (pgs_cons (pg_name (i := 2) nd rfl (Or.inl rfl)) pgs_nil)))
      (gss_cons (gs_yield (pe_tup (pa_cons (pv 1) (pa_cons (pv 2) pa_nil)))) gss_nil)) gss_nil, ?_⟩
    obtain ⟨a, dx, fs, g1, p1, r, rfl, el, ha, b1⟩ := id hf.obj
    refine tg_then (tg_forEA ?_)
    refine Rd.cons ?_
    intro inj
    walk_at "rd"
    refine ⟨g, a, dx, fs, rfl, ha, b1.meth "_every", ?_⟩
    walk_at "rd"
    refine ⟨g, _, l, rfl, hf, og, ht, few, fun H1 b k1 hb => ?_⟩
    walk_at "rd"
    refine ⟨b, l, rfl, .inl ⟨SqL.of hb, ?_⟩⟩
    have ll := nodes_len hf
    have kf1 : Kf K c H H1 := kf_seq inj k1
    refine gfor_it walk_enum (fun i ys σ H' => (∃ x y, σ = [some (.ref a), x, y]) ∧ Same H1 H' ∧ NdsAt H' 0 ys (l.take i)) ⟨⟨_, _, rfl⟩, Same.refl _, trivial⟩ (fun i ys σ H' _ z => SqL.of (z.2.1 _ _ hb)) (fun i x ys σ H' H2 hi hy z => ?_) (fun ys σ H' z => ?_)
    · obtain ⟨⟨_, _, rfl⟩, s2, na⟩ := hy
      obtain ⟨t, i', v, rfl, nT, rfl, ei, ev⟩ := z
      cases ei
      refine ⟨t, _, rfl, SqT.of upd_same, rfl, ?_⟩
      walk_at "rd"
      have s3 := same_new (o := HO.tup [V.int (i : Nat), v]) nT
      have nl := na.len
      rw [List.length_take] at nl
      refine tg_then (tg_yield ⟨Nat.lt_of_lt_of_le (show ys.length < 100000 by omega) (by decide), ?_⟩)
      walk_at "rd"
      refine ⟨Rd.small (by show 2 ≤ 100000; decide), fun p np => ?_⟩
      have s4 := same_new (o := HO.tup [V.int (i : Nat), v]) np
      refine ⟨⟨_, _, rfl⟩, s2.trans (s3.trans s4), ?_⟩
      have il : i < l.length := hi
      have nl2 : ys.length = i := by omega
      have ev : l[i]? = some v := ev
      rw [List.take_add_one, ev, Option.toList_some]
      exact NdsAt.snoc ((na.same s3).same s4) ⟨p, rfl, by rw [nl2, Nat.zero_add]; exact upd_same⟩
    · obtain ⟨⟨_, _, rfl⟩, s2, na⟩ := z
      rw [List.take_length] at na
      exact q ys H' (kf1.trans (kf_same s2)) na
end
end K12

namespace K12
open PySem PySem.Spec PyProof.Rows L2
local macro_rules | `(tactic| walk_at "rd1") => `(tactic| first
  | (with_reducible refine Rd.seq ?_) | (with_reducible refine Rd.asg ?_) | (with_reducible refine Rd.ret ?_) | (with_reducible refine Rd.nxt ?_) | (with_reducible refine Rd.ifS ?_)
  | (with_reducible refine Rd.op ?_) | (with_reducible refine Rd.un ?_) | (with_reducible refine Rd.cb ?_) | (with_reducible refine Rd.cons ?_) | (with_reducible refine Rd.nil ?_) | (with_reducible refine Rd.ifx ?_)
  | (with_reducible refine Rd.test ?_) | (with_reducible refine Rd.testB ?_) | (with_reducible refine Rd.notT ?_) | (with_reducible refine Rd.isB ?_) | (with_reducible refine Rd.lst ?_) | (with_reducible refine Rd.tup ?_)
  | (with_reducible refine Rd.andV ?_) | (with_reducible refine Rd.orV ?_) | (with_reducible refine Rd.notV ?_) | (with_reducible refine Rd.andT ?_) | (with_reducible refine Rd.orT ?_) | (with_reducible refine Rd.chain ?_)
  | (with_reducible refine Rd.m0 ?_) | (with_reducible refine Rd.m1 ?_) | (with_reducible refine Rd.bm0 ?_) | (with_reducible refine Rd.bm ?_) | (with_reducible refine Rd.sl ?_) | (with_reducible refine Rd.part ?_) | (with_reducible refine Rd.part0 ?_) | (with_reducible refine Rd.isI ?_)
  | (with_reducible refine Rd.fmt ?_) | (with_reducible refine Rd.fmtRD ?_) | (with_reducible refine Rd.meth ?_) | (with_reducible refine makeG ?_) | (with_reducible refine Rd.prop ?_) | (with_reducible refine Rd.js ?_) | (with_reducible refine Rd.js0 ?_) | (with_reducible refine Rd.par ?_) | (with_reducible refine Rd.star ?_) | (with_reducible refine lcR1 ?_) | (with_reducible refine lcR2 ?_) | (with_reducible refine Rd.fld ?_) | (with_reducible refine Rd.sfld ?_) | (with_reducible refine Rd.expr ?_) | (with_reducible refine L2.isNR ?_) | (with_reducible refine L2.methI ?_) | (with_reducible refine Rd.forZ ?_)
  | (with_reducible refine Rd.forEA ?_) | (with_reducible refine Rd.forR1 ?_) | (with_reducible refine Rd.forR2 ?_) | (with_reducible refine Rd.forL ?_) | (with_reducible refine Rd.forT ?_)
  | (with_reducible refine Rd.call ?_) | (with_reducible refine Rd.asgG ?_) | (with_reducible refine Rd.gNm ?_) | (with_reducible refine Rd.gSb ?_) | (with_reducible refine Rd.gC ?_) | (with_reducible refine Rd.gN ?_)
  | ((with_reducible refine' Rd.var ?hv ?_); (case hv => exact rfl)) | (with_reducible refine Rd.c ?_) | (with_reducible refine Rd.i0 ?_) | (with_reducible refine Rd.neg ?_)
  | ((with_reducible refine' Rd.iC ?hc ?_); (case hc => first | (show (0 : Int) < _; decide) | exact ⟨by decide, by decide⟩ | exact ⟨by decide, by decide, by decide⟩ | exact .inl ⟨by decide, by decide⟩ | exact .inr ⟨by decide, by decide⟩ | exact .inl ⟨by omega, by omega⟩ | (show (0 : Int) < _; omega) | exact ⟨by omega, by omega⟩))
  | ((with_reducible refine' Rd.eqS ?hc ?_); (case hc => rfl)) | ((with_reducible refine' Rd.neS ?hc ?_); (case hc => rfl)))
local macro_rules | `(tactic| walk_at "rd") => `(tactic| repeat walk_at "rd1")
/-! ### all nodes, each ahead of its parts -/
def Fm.subs : Fm → List Fm
  | .num n => [.num n]
  | .ref w x => [.ref w x]
  | .pair o l r => .pair o l r :: (l.subs ++ r.subs)
  | .cho t s a b => .cho t s a b :: (t.subs ++ (a.subs ++ b.subs))
def AllAt (K : PySem.W.Frag) (c : Cs) (H : Hp) : List Fm → List V → Prop
  | [], [] => True
  | f :: fs, v :: vs => (∃ l, FmAt K c H f v l) ∧ AllAt K c H fs vs
  | _, _ => False
theorem AllAt.append {K : PySem.W.Frag} {c : Cs} {H : Hp} : ∀ {fs gs : List Fm} {us vs : List V}, AllAt K c H fs us → AllAt K c H gs vs → AllAt K c H (fs ++ gs) (us ++ vs)
  | [], _, [], _, _, h => h
  | _ :: _, _, _ :: _, _, ⟨a, b⟩, h => ⟨a, AllAt.append b h⟩
  | [], _, _ :: _, _, h, _ => h.elim
  | _ :: _, _, [], _, h, _ => h.elim
theorem FmAt.all {K : PySem.W.Frag} {c : Cs} {H : Hp} : ∀ {f : Fm} {v : V} {l : List V}, FmAt K c H f v l → AllAt K c H f.subs l
  | .num n, v, l, h => by
    obtain ⟨rfl, _⟩ := id h
    exact ⟨⟨_, h⟩, trivial⟩
  | .ref w x, v, l, h => by
    obtain ⟨rfl, _⟩ := id h
    exact ⟨⟨_, h⟩, trivial⟩
  | .pair w f1 f2, v, l, h => by
    obtain ⟨v1, l1, v2, l2, rfl, t1, t2, _⟩ := id h
    exact ⟨⟨_, h⟩, (FmAt.all t1).append (FmAt.all t2)⟩
  | .cho f1 s f2 f3, v, l, h => by
    obtain ⟨v1, l1, v2, l2, v3, l3, rfl, t1, t2, t3, _⟩ := id h
    exact ⟨⟨_, h⟩, (FmAt.all t1).append ((FmAt.all t2).append (FmAt.all t3))⟩
theorem AllAt.len {K : PySem.W.Frag} {c : Cs} {H : Hp} : ∀ {fs : List Fm} {vs : List V}, AllAt K c H fs vs → fs.length = vs.length
  | [], [], _ => rfl
  | _ :: _, _ :: _, h => congrArg (· + 1) (AllAt.len h.2)
  | [], _ :: _, h => h.elim
  | _ :: _, [], h => h.elim
theorem AllAt.get {K : PySem.W.Frag} {c : Cs} {H : Hp} : ∀ {fs : List Fm} {vs : List V} {i : Nat} {v : V}, AllAt K c H fs vs → vs[i]? = some v → ∃ f l, fs[i]? = some f ∧ FmAt K c H f v l
  | f :: fs, _ :: _, 0, v, h, e => by
    cases e
    exact ⟨f, h.1.choose, rfl, h.1.choose_spec⟩
  | _ :: _, _ :: _, i + 1, v, h, e => AllAt.get (i := i) h.2 e
  | [], [], _, _, _, e => by simp at e
  | [], _ :: _, _, _, h, _ => h.elim
  | _ :: _, [], _, _, h, _ => h.elim
theorem AllAt.kf {K : PySem.W.Frag} {c : Cs} {H H' : Hp} (k : Kf K c H H') : ∀ {fs : List Fm} {vs : List V}, (∀ f ∈ fs, Okf f) → AllAt K c H fs vs → AllAt K c H' fs vs
  | [], [], _, h => h
  | _ :: _, _ :: _, o, h => ⟨⟨h.1.choose, k.fm (o _ List.mem_cons_self) h.1.choose_spec⟩, AllAt.kf k (fun f m => o f (List.mem_cons_of_mem _ m)) h.2⟩
  | [], _ :: _, _, h => h.elim
  | _ :: _, [], _, h => h.elim
theorem subs_ok : ∀ {f : Fm}, Okf f → ∀ g ∈ f.subs, Okf g
  | .num n, o, g, m => by rw [List.mem_singleton.mp m]; exact o
  | .ref w x, o, g, m => by rw [List.mem_singleton.mp m]; exact o
  | .pair w l r, o, g, m => by
    rcases List.mem_cons.mp m with e | m
    · rw [e]; exact o
    · rcases List.mem_append.mp m with m | m
      · exact subs_ok o.2.1 g m
      · exact subs_ok o.2.2 g m
  | .cho t s a b, o, g, m => by
    rcases List.mem_cons.mp m with e | m
    · rw [e]; exact o
    · rcases List.mem_append.mp m with m | m
      · exact subs_ok o.2.1 g m
      · rcases List.mem_append.mp m with m | m
        · exact subs_ok o.2.2.1 g m
        · exact subs_ok o.2.2.2 g m
/-! ### the columns that are read by a word -/
def colOf (i : Nat) : Fm → Option Str
  | .ref w x => if w = i then some x else none
  | _ => none
def colsIn (i : Nat) (fs : List Fm) : List Str := fs.filterMap (colOf i)
/-- the texts of L in their order, each once -/
structure Srt (L ys : List Str) : Prop where
  s : sortedS ys = true
  n : ys.Nodup
  m : ∀ x, x ∈ ys ↔ x ∈ L
theorem perm_two : ∀ (l m : List Str), l.Nodup → m.Nodup → (∀ x, x ∈ l ↔ x ∈ m) → l.Perm m
  | [], [], _, _, _ => .nil
  | [], y :: m, _, _, h => nomatch (h y).mpr List.mem_cons_self
  | x :: l, m, nl, nm, h => by
    have hx : x ∈ m := (h x).mp List.mem_cons_self
    refine (List.Perm.cons x (perm_two l (m.erase x) nl.of_cons (nm.erase x) fun y => ?_)).trans (List.perm_cons_erase hx).symm
    rw [nm.mem_erase_iff]
    constructor
    · intro hy
      exact ⟨fun e => (List.nodup_cons.mp nl).1 (e ▸ hy), (h y).mp (List.mem_cons_of_mem _ hy)⟩
    · rintro ⟨ne, hy⟩
      exact (List.mem_cons.mp ((h y).mpr hy)).resolve_left ne
theorem Srt.one {L L' ys zs : List Str} (a : Srt L ys) (b : Srt L' zs) (h : ∀ x, x ∈ L ↔ x ∈ L') : ys = zs :=
  sorted_one ys zs a.s b.s (perm_two ys zs a.n b.n fun x => (a.m x).trans ((h x).trans (b.m x).symm))
theorem called_of {i : Nat} {g : Fm} (o : Okf g) (hi : i < 3) : decide (V.str (nameOf g) = V.str (refName i)) = (colOf i g).isSome := by
  have h1 : ∀ i, i < 3 → decide (V.str "Number" = V.str (refName i)) = false ∧ decide (V.str "Choice" = V.str (refName i)) = false := by decide +kernel
  have h2 : ∀ w, w < 3 → ∀ i, i < 3 → decide (V.str (refName w) = V.str (refName i)) = decide (w = i) := by decide +kernel
  have h3 : ∀ w, w < 4 → ∀ i, i < 3 → decide (V.str (pairName w) = V.str (refName i)) = false := by decide +kernel
  match g, o with
  | .num n, o => exact (h1 i hi).1
  | .ref w x, o =>
    show decide (V.str (refName w) = _) = (if w = i then some x else none).isSome
    rw [h2 w o.1 i hi]
    by_cases e : w = i
    · rw [if_pos e, decide_eq_true e]; rfl
    · rw [if_neg e, decide_eq_false e]; rfl
  | .pair w l r, o => exact h3 w o.1 i hi
  | .cho t s a b, o => exact (h1 i hi).2
theorem colOf_some {i : Nat} {g : Fm} {x : Str} (h : colOf i g = some x) : g = .ref i x := by
  cases g with
  | ref w y =>
    have h : (if w = i then some y else none) = some x := h
    by_cases e : w = i
    · rw [if_pos e] at h
      cases h
      rw [e]
    · rw [if_neg e] at h
      cases h
  | _ => cases h
theorem csL {O : Addr → HO} {Ad : Adder} {K : PySem.W.Frag} {tl : TE} {g : TG} {tt : TT} {te : TE} {vs : List Nat} {σ : L2.St} {H : Hp} {Q : VK} (h : tl σ H fun x H1 => ∃ a, x = .ref a ∧ (∃ xs, SqL K H1 a xs) ∧ ∀ D, H1 D = none → loopC O Ad (Itl K a) g tt te vs σ H1 D fun H2 => Q (.ref D) H2) : tCs O Ad (iList K tl) g tt te vs σ H Q := h
structure Gw (K : PySem.W.Frag) (w : World) (mg : Str → Option Value) : Prop where
  ws : ∃ t, mg "WHERES" = some (.ref t) ∧ ∀ H, SqT K H t [.str "here", .str "up", .str "down"]
  rf : ∃ r, mg "REFERENCES" = some (.ref r) ∧ (∃ es n, KDict K w r es n) ∧ ∀ i, ∃ u, PySem.W.nsIn K r (refWhere i) = some (some (.str (refName i) u))
abbrev sIsWhere : Stmt := topA iis_where
abbrev sCols : Stmt := sMeth iFormula 3
def spIsWhere : Sp := fun vs H Q _ => ∃ i, vs = [.str (refWhere i)] ∧ Q (.bl true) H
def spCols (K : PySem.W.Frag) (c : Cs) (n : Nat) : Sp := fun vs H Q _ => ∃ (f : Fm) (v : V) (l : List V) (i : Nat), vs = [v, .str (refWhere i)] ∧ i < 3 ∧ FmAt K c H f v l ∧ Okf f ∧ f.ht ≤ n ∧ f.q.1 ≤ 40 ∧
  ∀ ys p H', Kf K c H H' → H p = none → H' p = some (.lst (ys.map V.str)) → Srt (colsIn i f.subs) ys → Q (.ref p) H'
section
variable {P : Program} {w : World} {K : PySem.W.Frag} {mg : Str → Option Value} {base : Heap} {c : Cs} {f fE fW : Addr} {fd fdE fdW : FuncData}
theorem scIsWhere : FnScope ["value"] ["value"] (defScope sIsWhere) := ⟨rfl, rfl, rfl, by decide +kernel, rfl, by decide +kernel, by decide +kernel⟩
theorem ok_isWhere (F : FnP K "is_where" sIsWhere f fd) (G : Gw K w mg) (gIs : mg "isinstance" = none) (gStr : mg "str" = none) : FnOk P w K mg base CX0 1 f fd ["value"] spIsWhere := by
  obtain ⟨t, gW, hW⟩ := G.ws
  refine F.ok scIsWhere (fun vs H Q E h => ?_) (fun cdv A outer s H vs Q E hr h => ?_)
  · obtain ⟨i, rfl, _⟩ := h
    rfl
  · obtain ⟨i, rfl, q⟩ := h
    refine ⟨_, PSs.nox (pss_one (ps_ret (pe_and (pe_callB call_isi rfl gIs (by decide +kernel) (pa_cons (pv 0) (pa_cons (pe_bltn rfl gStr (by decide +kernel) (v := .ty "str") rfl) pa_nil))) (pe_one (pe_cmpR op_in_seq (pv 0) (pe_glob rfl gW (v := .ref t) rfl) rfl))))), ?_⟩
    walk_at "rd"
    refine Rd.isi (k := true) (.base (.str _)) (by decide +kernel) ?_
    refine Rd.isT rfl ?_
    walk_at "rd"
    refine ⟨t, _, rfl, .inr (hW _), rfl, ?_⟩
    have e : inV (.str (refWhere i)) [V.str "here", .str "up", .str "down"] = true := by
      match i with
      | 0 => decide +kernel
      | 1 => decide +kernel
      | n + 2 => exact (by decide +kernel : inV (.str "down") [V.str "here", .str "up", .str "down"] = true)
    refine ⟨rfl, ?_⟩
    rw [if_neg Bool.false_ne_true, e]
    exact q
abbrev nmsC : List Str := ["self", "where", "name", "node"]
theorem scCols : FnScope nmsC ["self", "where"] (defScope sCols) := ⟨rfl, rfl, rfl, by decide +kernel, rfl, by decide +kernel, by decide +kernel⟩
theorem ok_cols {n : Nat} (F : FunD K "columns_read" "Formula.columns_read" (defArgs sCols) (defBody sCols) (defScope sCols) [] [] f fd) (T : Cl K c) (G : Gw K w mg) (mE : ∀ g, Meth K (clsOf c g) "_every" fE) (GE : FnOk P w K mg base CX0 (n + 1) fE fdE ["self"] (spEvery K c n)) (bE : Binds K fdE ["self"] [])
    (FW : FnP K "is_where" sIsWhere fW fdW) (GW : FnOk P w K mg base CX0 1 fW fdW ["value"] spIsWhere) (gW : mg "is_where" = some (.ref fW)) (gSo : mg "sorted" = none) : FnOk P w K mg base CX0 (n + 2) f fd ["self", "where"] (spCols K c n) := by
  have bW : Binds K fdW ["value"] [] := FW.bindsN fun _ _ _ _ _ _ us hl => match us, hl with | [_], _ => rfl
  obtain ⟨r, gR, ⟨es, en, D⟩, hR⟩ := G.rf
  have nd := scCols.nd
  refine F.ok scCols (fun vs H Q E h => ?_) (fun cdv A outer s H vs Q E hr h => ?_)
  · obtain ⟨g, v, l, i, rfl, _⟩ := h
    rfl
  · obtain ⟨g, v, l, i, rfl, hi, hf, og, ht, few, q⟩ := h
    have r1 := hr.mono (show 1 ≤ n + 1 by omega)
    refine ⟨_, PSs.nox (pss_inj (pss_cons (ps_if (pt_not (pt_val (pe_call GW r1 rfl gW FW.kp bW .nil pass0 (pa_cons (pv 1) pa_nil)))) (pss_one ps_never) pss_nil)
        (pss_cons (ps_set (i := 2) nd rfl (Or.inr rfl) (pe_ix ix_kdict (pe_glob rfl gR (v := .ref r) rfl) (pv 1) (fun _ _ => rfl)))
        (pss_one (ps_ret (pe_callB (cr_sortTx rfl) rfl gSo (by decide +kernel) (pa_cons (pe_cs (likeTx _ _) (own := [("node", 3)]) (g := gName 3) (tt := tTest (tOp rEq (tFld K (tVar 3) "_called") (tVar 2))) (te := tFld K (tVar 3) "column") rfl nd (pi_list (pe_methI0 (ι := Fm) (C := clsOf c) (f := fun _ => fE) (fd := fun _ => fdE) (sp := fun _ => spEvery K c n) (pv 0) (fun i => (T.at_ i).cl) mE (fun _ => GE) hr (fun _ => bE) .nil pass0)) (blkOk_by (N := nmsC) (sc := defScope sCols) (by decide +kernel)) (fun _ _ _ _ _ => by exact pg_name (i := 3) nd rfl (Or.inl rfl)) (fun _ _ _ _ _ => by exact pts_one (pt_cmpR op_eq (pe_fld (pv 3) rfl) (pv 2) (nomark _))) (fun _ _ _ _ _ => by exact pe_fld (pv 3) rfl)) pa_nil))))))), ?_⟩
    intro inj
    obtain ⟨a, dx, fs, g1, p1, rr, rfl, el, ha, b1⟩ := id hf.obj
    walk_at "rd"
    refine ⟨i, rfl, ?_⟩
    walk_at "rd"
    refine iteF ?_
    walk_at "rd"
    obtain ⟨u0, hu0⟩ := hR i
    refine ⟨r, _, .str (refName i), rfl, rfl, ⟨es, en, _, D.at_, D.lit, hu0, u0, rfl⟩, ?_⟩
    walk_at "rd"
    refine csL ?_
    walk_at "rd"
    refine ⟨g, a, dx, fs, rfl, ha, b1.meth "_every", ?_⟩
    walk_at "rd"
    refine ⟨g, _, l, rfl, hf, og, ht, by omega, fun H1 b k1 hb => ?_⟩
    walk_at "rd"
    have kf1 : Kf K c H H1 := kf_seq inj k1
    have all1 := (kf1.fm og hf).all
    have ln := all1.len
    have ll := nodes_len hf
    refine ⟨b, rfl, ⟨l, SqL.of hb⟩, fun D hD => ?_⟩
    have st : ∀ {G : Hp} {o : HO}, Same H1 G → Same H1 (upd G D o) := fun s z o e => by rw [upd_ne (ne_of_none e hD)]; exact s z o e
    refine loopC_it walk_list (fun k G => Same H1 G ∧ ∃ L : List Str, G D = some (TxO P w D L) ∧ L.length ≤ k ∧ ∀ x, x ∈ L ↔ x ∈ colsIn i (g.subs.take k)) ⟨st (Same.refl _), [], upd_same, Nat.le_refl _, fun x => Iff.rfl⟩ (fun k G _ z => SqL.of (z.1 _ _ hb)) (fun k u G G' hk z y => ?_) fun G z => ?_
    · obtain ⟨s2, L, eD, le, mm⟩ := z
      obtain ⟨rfl, eu⟩ := y
      obtain ⟨g2, m, e2, f2⟩ := all1.get eu
      have f3 := f2.kp (kp_same s2)
      have o2 := subs_ok og g2 (List.mem_of_getElem? e2)
      have tk : g.subs.take (k + 1) = g.subs.take k ++ [g2] := by rw [List.take_add_one, e2]; rfl
      have room : L.length + 1 < scanBound := by
        have : l.length = g.q.1 := ll
        exact Nat.lt_of_le_of_lt (show L.length + 1 ≤ 42 by omega) (by decide)
      refine ⟨rfl, ?_⟩
      obtain ⟨a2, dx2, fs2, g3, p3, r3, rfl, _, ha2, b2⟩ := id f3.obj
      walk_at "rd"
      refine ⟨a2, _, dx2, fs2, _, rfl, ha2, (T.at_ g2).cl, (T.at_ g2).no "_called", b2.nm, ?_⟩
      have cm : ∀ x, x ∈ colsIn i (g.subs.take (k + 1)) ↔ x ∈ colsIn i (g.subs.take k) ∨ colOf i g2 = some x := fun x => by
        unfold colsIn
        rw [tk, List.filterMap_append, List.mem_append]
        refine or_congr Iff.rfl ?_
        cases e : colOf i g2 with
        | none => simp [e]
        | some y => simp [e, eq_comm]
      walk_at "rd"
      show if decide (V.str (nameOf g2) = V.str (refName i)) = true then _ else _
      rw [called_of o2 hi]
      cases ec : colOf i g2 with
      | none =>
        rw [if_neg (show ¬ (none : Option Str).isSome = true by simp)]
        exact ⟨s2, L, eD, Nat.le_succ_of_le le, fun x => (mm x).trans ((cm x).trans (by rw [ec]; simp)).symm⟩
      | some x =>
        rw [if_pos (show (some x).isSome = true from rfl)]
        have eg := colOf_some ec
        subst eg
        obtain ⟨_, a4, dx4, fs4, g4, p4, e4, ha4, b4, _, _, _, hc4⟩ := id f3
        cases e4
        walk_at "rd"
        refine ⟨a2, _, dx4, fs4, _, rfl, ha4, (T.at_ (.ref i x)).cl, (T.at_ (.ref i x)).no "column", hc4, ?_⟩
        refine ⟨x, L, rfl, eD, room, st s2, addL L x, upd_same, ?_, fun y => ?_⟩
        · exact Nat.le_trans (addL_len L x) (Nat.succ_le_succ le)
        · rw [addL_mem, mm y, cm y, ec]
          exact or_congr Iff.rfl ⟨fun e => by rw [e], fun e => (Option.some.inj e).symm⟩
    · obtain ⟨s2, L, eD, le, mm⟩ := z
      have le : L.length ≤ l.length := le
      rw [show g.subs.take l.length = g.subs from List.take_of_length_le (by omega)] at mm
      walk_at "rd"
      refine ⟨D, L, rfl, eD, by omega, fun ys p pm ndL hs hp => ?_⟩
      have s3 := s2.trans (same_new (o := HO.lst (ys.map V.str)) hp)
      exact q ys p _ (kf1.trans (kf_same s3)) (kf1.free (s2.free hp)) upd_same ⟨hs, (pm.nodup_iff).mpr ndL, fun x => (pm.mem_iff).trans (mm x)⟩
end
end K12

namespace K12
open PySem PySem.Spec PyProof.Rows L2
local macro_rules | `(tactic| walk_at "rd1") => `(tactic| first
  | (with_reducible refine Rd.seq ?_) | (with_reducible refine Rd.asg ?_) | (with_reducible refine Rd.ret ?_) | (with_reducible refine Rd.nxt ?_) | (with_reducible refine Rd.ifS ?_)
  | (with_reducible refine Rd.op ?_) | (with_reducible refine Rd.un ?_) | (with_reducible refine Rd.cb ?_) | (with_reducible refine Rd.cons ?_) | (with_reducible refine Rd.nil ?_) | (with_reducible refine Rd.ifx ?_)
  | (with_reducible refine Rd.test ?_) | (with_reducible refine Rd.testB ?_) | (with_reducible refine Rd.notT ?_) | (with_reducible refine Rd.isB ?_) | (with_reducible refine Rd.lst ?_) | (with_reducible refine Rd.tup ?_)
  | (with_reducible refine Rd.andV ?_) | (with_reducible refine Rd.orV ?_) | (with_reducible refine Rd.notV ?_) | (with_reducible refine Rd.andT ?_) | (with_reducible refine Rd.orT ?_) | (with_reducible refine Rd.chain ?_)
  | (with_reducible refine Rd.m0 ?_) | (with_reducible refine Rd.m1 ?_) | (with_reducible refine Rd.bm0 ?_) | (with_reducible refine Rd.bm ?_) | (with_reducible refine Rd.sl ?_) | (with_reducible refine Rd.part ?_) | (with_reducible refine Rd.part0 ?_) | (with_reducible refine Rd.isI ?_)
  | (with_reducible refine Rd.fmt ?_) | (with_reducible refine Rd.fmtRD ?_) | (with_reducible refine Rd.meth ?_) | (with_reducible refine makeG ?_) | (with_reducible refine Rd.prop ?_) | (with_reducible refine Rd.js ?_) | (with_reducible refine Rd.js0 ?_) | (with_reducible refine Rd.par ?_) | (with_reducible refine Rd.star ?_) | (with_reducible refine lcR1 ?_) | (with_reducible refine lcR2 ?_) | (with_reducible refine Rd.fld ?_) | (with_reducible refine Rd.sfld ?_) | (with_reducible refine Rd.expr ?_) | (with_reducible refine L2.isNR ?_) | (with_reducible refine L2.methI ?_) | (with_reducible refine Rd.forZ ?_)
  | (with_reducible refine Rd.forEA ?_) | (with_reducible refine Rd.forR1 ?_) | (with_reducible refine Rd.forR2 ?_) | (with_reducible refine Rd.forL ?_) | (with_reducible refine Rd.forT ?_)
  | (with_reducible refine Rd.call ?_) | (with_reducible refine Rd.asgG ?_) | (with_reducible refine Rd.gNm ?_) | (with_reducible refine Rd.gSb ?_) | (with_reducible refine Rd.gC ?_) | (with_reducible refine Rd.gN ?_)
  | ((with_reducible refine' Rd.var ?hv ?_); (case hv => exact rfl)) | (with_reducible refine Rd.c ?_) | (with_reducible refine Rd.i0 ?_) | (with_reducible refine Rd.neg ?_)
  | ((with_reducible refine' Rd.iC ?hc ?_); (case hc => first | (show (0 : Int) < _; decide) | exact ⟨by decide, by decide⟩ | exact ⟨by decide, by decide, by decide⟩ | exact .inl ⟨by decide, by decide⟩ | exact .inr ⟨by decide, by decide⟩ | exact .inl ⟨by omega, by omega⟩ | (show (0 : Int) < _; omega) | exact ⟨by omega, by omega⟩))
  | ((with_reducible refine' Rd.eqS ?hc ?_); (case hc => rfl)) | ((with_reducible refine' Rd.neS ?hc ?_); (case hc => rfl)))
local macro_rules | `(tactic| walk_at "rd") => `(tactic| repeat walk_at "rd1")
/-! ### whether it fits a modulus and columns -/
def fits1 (M : Nat) (L : List Str) : Fm → Bool
  | .num n => decide (n < M)
  | .ref _ x => decide (x ∈ L)
  | .pair _ _ _ => true
  | .cho _ s _ _ => s.all fun n => decide (n < M)
def spFI (K : PySem.W.Frag) (c : Cs) (g : Fm) : Sp := fun vs H Q _ => ∃ (v : V) (l : List V) (M : Nat) (a : Addr) (L : List Str), vs = [v, .int (M : Nat), .ref a] ∧ FmAt K c H g v l ∧ Okf g ∧ Sv K H a (L.map V.str) ∧ Q (.bl (fits1 M L g)) H
abbrev sFiF : Stmt := sMeth iFormula 16
abbrev sFiN : Stmt := sMeth iNumber 2
abbrev sFiR : Stmt := sMeth iReference 2
abbrev sFiC : Stmt := sMeth iChoice 2
abbrev sFits : Stmt := sMeth iFormula 5
theorem inV_str (x : Str) : ∀ L : List Str, inV (.str x) (L.map V.str) = decide (x ∈ L)
  | [] => rfl
  | y :: L => by
    have ih := inV_str x L
    unfold inV at ih ⊢
    rw [List.map_cons, List.any_cons, ih]
    have e : eqV (.str y) (.str x) = decide (x = y) := by
      show decide _ = _
      by_cases h : x = y
      · subst h; simp
      · rw [decide_eq_false h]
        simp [Ne.symm h]
    rw [e, Bool.eq_iff_iff]
    simp
theorem sql_kf {K : PySem.W.Frag} {c : Cs} {H H' : Hp} {a : Addr} {xs : List V} (k : Kf K c H H') (h : SqL K H a xs) : SqL K H' a xs := by
  rcases h with h | h
  · rcases h with h | ⟨o, h⟩
    · exact .inl (.inl (k.oth h (fun _ _ _ z => by cases z)))
    · exact .inl (.inr ⟨o, k.oth h (fun _ _ _ z => by cases z)⟩)
  · exact .inr h
theorem flat_strs (L : List Str) : (L.map V.str).all flatV = true := by
  rw [List.all_map]
  exact List.all_eq_true.mpr fun _ _ => rfl
/-- what rises is below what its last one is below -/
theorem asc_last {s : List Nat} (h : Asc s) (M : Nat) (ne : s ≠ []) : (s.all fun n => decide (n < M)) = decide (s.getLast ne < M) := by
  rw [Bool.eq_iff_iff, List.all_eq_true, decide_eq_true_eq]
  constructor
  · intro a
    exact of_decide_eq_true (a _ (List.getLast_mem ne))
  · intro a n hn
    refine decide_eq_true (Nat.lt_of_le_of_lt ?_ a)
    obtain ⟨i, hi, rfl⟩ := List.getElem_of_mem hn
    have up : ∀ k, ∀ j, i + k = j → (hj : j < s.length) → s[i] ≤ s[j] := by
      intro k
      induction k with
      | zero =>
        intro j e hj
        have e : i = j := e
        subst e
        exact Nat.le_refl _
      | succ k ih =>
        intro j e hj
        have b := ih (i + k) rfl (by omega)
        have e : j = (i + k) + 1 := by omega
        subst e
        have z := (h.at_ (i + k + 1) _ (List.getElem?_eq_getElem hj)).1
        have z2 : leastAt s (i + k + 1) = s[i + k] + 1 := least_next (List.getElem?_eq_getElem (by omega))
        omega
    rw [List.getLast_eq_getElem]
    exact up (s.length - 1 - i) _ (by omega) (by omega)
section
variable {P : Program} {w : World} {K : PySem.W.Frag} {mg : Str → Option Value} {base : Heap} {c : Cs} {f fE : Addr} {fd fdE : FuncData}
theorem scFiF : FnScope ["self", "modulus", "columns"] ["self", "modulus", "columns"] (defScope sFiF) := ⟨rfl, rfl, rfl, by decide +kernel, rfl, by decide +kernel, by decide +kernel⟩
theorem ok_fiF {o : Nat} {l r : Fm} (F : FunD K "_fits_itself" "Formula._fits_itself" (defArgs sFiF) (defBody sFiF) (defScope sFiF) [] [] f fd) : FnOk P w K mg base CX0 1 f fd ["self", "modulus", "columns"] (spFI K c (.pair o l r)) := by
  refine F.ok scFiF (fun vs H Q E h => ?_) (fun cdv A outer s H vs Q E hr h => ?_)
  · obtain ⟨v, l, M, a, L, rfl, _⟩ := h
    rfl
  · obtain ⟨v, l, M, a, L, rfl, hf, og, hS, q⟩ := h
    refine ⟨_, PSs.nox (pss_one (ps_ret pe_bl)), ?_⟩
    walk_at "rd"
    exact q
theorem scFiN : FnScope ["self", "modulus", "columns"] ["self", "modulus", "columns"] (defScope sFiN) := ⟨rfl, rfl, rfl, by decide +kernel, rfl, by decide +kernel, by decide +kernel⟩
theorem ok_fiN {n : Nat} (F : FunD K "_fits_itself" "Number._fits_itself" (defArgs sFiN) (defBody sFiN) (defScope sFiN) [] [] f fd) (T : Cl K c) : FnOk P w K mg base CX0 1 f fd ["self", "modulus", "columns"] (spFI K c (.num n)) := by
  refine F.ok scFiN (fun vs H Q E h => ?_) (fun cdv A outer s H vs Q E hr h => ?_)
  · obtain ⟨v, l, M, a, L, rfl, _⟩ := h
    rfl
  · obtain ⟨v, l, M, a, L, rfl, hf, og, hS, q⟩ := h
    refine ⟨_, PSs.nox (pss_one (ps_ret (pe_cmpR op_lt (pe_fld (pv 0) rfl) (pv 1) (nomark _)))), ?_⟩
    obtain ⟨rfl, _, b, dx, fs, g, p, rfl, ha, b1, _, _, hv⟩ := id hf
    walk_at "rd"
    refine ⟨b, _, dx, fs, _, rfl, ha, T.num.cl, T.num.no "value", hv, ?_⟩
    walk_at "rd"
    have e : decide (((n : Nat) : Int) < ((M : Nat) : Int)) = decide (n < M) := by
      by_cases h : n < M
      · rw [decide_eq_true h, decide_eq_true (by omega)]
      · rw [decide_eq_false h, decide_eq_false (by omega)]
    refine ⟨_, _, rfl, rfl, ?_⟩
    show Q (.bl (decide (((n : Nat) : Int) < ((M : Nat) : Int)))) H
    rw [e]
    exact q
theorem at_last {s : List Nat} (ne : s ≠ []) : atI (s.map natV) (-1) = some (natV (s.getLast ne)) := by
  have hl : 0 < s.length := List.length_pos_iff.mpr ne
  unfold atI ixN
  rw [if_neg (by decide), if_pos (by rw [List.length_map]; omega)]
  show (s.map natV)[((-1 : Int) + ((s.map natV).length : Nat)).toNat]? = _
  rw [List.length_map, show ((-1 : Int) + (s.length : Nat)).toNat = s.length - 1 by omega, List.getElem?_map, ← List.getLast?_eq_getElem?, List.getLast?_eq_some_getLast ne]
  rfl
theorem notTr {K : PySem.W.Frag} {ta : TE} {σ : L2.St} {H : Hp} {Q : VK} (h : ta σ H fun x H1 => ∃ k, TruV K x H1 k ∧ Q (.bl (!k)) H1) : tNotT K ta σ H Q := h
theorem scFiR : FnScope ["self", "modulus", "columns"] ["self", "modulus", "columns"] (defScope sFiR) := ⟨rfl, rfl, rfl, by decide +kernel, rfl, by decide +kernel, by decide +kernel⟩
theorem ok_fiR {i : Nat} {x : Str} (F : FunD K "_fits_itself" "Reference._fits_itself" (defArgs sFiR) (defBody sFiR) (defScope sFiR) [] [] f fd) (T : Cl K c) : FnOk P w K mg base CX0 1 f fd ["self", "modulus", "columns"] (spFI K c (.ref i x)) := by
  refine F.ok scFiR (fun vs H Q E h => ?_) (fun cdv A outer s H vs Q E hr h => ?_)
  · obtain ⟨v, l, M, a, L, rfl, _⟩ := h
    rfl
  · obtain ⟨v, l, M, a, L, rfl, hf, og, hS, q⟩ := h
    refine ⟨_, PSs.nox (pss_one (ps_ret (pe_cmpR op_in_seq (pe_fld (pv 0) rfl) (pv 2) rfl))), ?_⟩
    obtain ⟨rfl, b, dx, fs, g, p, rfl, ha, b1, _, _, _, hv⟩ := id hf
    walk_at "rd"
    refine ⟨b, _, dx, fs, _, rfl, ha, (T.at_ (.ref i x)).cl, (T.at_ (.ref i x)).no "column", hv, ?_⟩
    walk_at "rd"
    refine ⟨a, _, rfl, hS, rfl, flat_strs L, ?_⟩
    rw [if_neg Bool.false_ne_true, inV_str]
    exact q
theorem scFiC : FnScope ["self", "modulus", "columns"] ["self", "modulus", "columns"] (defScope sFiC) := ⟨rfl, rfl, rfl, by decide +kernel, rfl, by decide +kernel, by decide +kernel⟩
theorem ok_fiC {t x y : Fm} {s : List Nat} (F : FunD K "_fits_itself" "Choice._fits_itself" (defArgs sFiC) (defBody sFiC) (defScope sFiC) [] [] f fd) (T : Cl K c) : FnOk P w K mg base CX0 1 f fd ["self", "modulus", "columns"] (spFI K c (.cho t s x y)) := by
  refine F.ok scFiC (fun vs H Q E h => ?_) (fun cdv A outer s' H vs Q E hr h => ?_)
  · obtain ⟨v, l, M, a, L, rfl, _⟩ := h
    rfl
  · obtain ⟨v, l, M, a, L, rfl, hf, og, hS, q⟩ := h
    refine ⟨_, PSs.nox (pss_one (ps_ret (pe_or (pe_notT (pe_fld (pv 0) rfl)) (pe_one (pe_cmpR op_lt (pe_ix ix_tup (pe_fld (pv 0) rfl) (pe_un un_neg pe_int) (fun _ _ => rfl)) (pv 1) (nomark _)))))), ?_⟩
    obtain ⟨v1, l1, v2, l2, v3, l3, rfl, _, _, _, b, dx, fs, g, p, tt, rfl, ha, b1, _, _, hs, _, hv, _⟩ := id hf
    walk_at "rd"
    refine notTr ?_
    walk_at "rd"
    refine ⟨b, _, dx, fs, _, rfl, ha, T.cho.cl, T.cho.no "chosen", hv, ?_⟩
    refine ⟨!(s.map natV).isEmpty, .inr (.inl ⟨_, hs, rfl⟩), _, rfl, ?_⟩
    by_cases ne : s = []
    · subst ne
      rw [if_pos (show (!!(List.map natV []).isEmpty) = true from rfl)]
      exact q
    · rw [if_neg (by cases s with
        | nil => exact absurd rfl ne
        | cons _ _ => simp)]
      walk_at "rd"
      refine ⟨b, _, dx, fs, _, rfl, ha, T.cho.cl, T.cho.no "chosen", hv, ?_⟩
      walk_at "rd"
      refine ⟨tt, _, _, natV (s.getLast ne), rfl, rfl, hs, ?_, ?_⟩
      · exact at_last ne
      walk_at "rd"
      refine ⟨_, _, rfl, rfl, ?_⟩
      have e : decide (((s.getLast ne : Nat) : Int) < ((M : Nat) : Int)) = decide (s.getLast ne < M) := by
        by_cases h : s.getLast ne < M
        · rw [decide_eq_true h, decide_eq_true (by omega)]
        · rw [decide_eq_false h, decide_eq_false (by omega)]
      show Q (.bl (decide (((s.getLast ne : Nat) : Int) < ((M : Nat) : Int)))) H
      rw [e, ← asc_last og.1 M ne]
      exact q
abbrev nmsFi : List Str := ["self", "modulus", "columns", "node"]
theorem scFits : FnScope nmsFi ["self", "modulus", "columns"] (defScope sFits) := ⟨rfl, rfl, rfl, by decide +kernel, rfl, by decide +kernel, by decide +kernel⟩
def spFits (K : PySem.W.Frag) (c : Cs) (n : Nat) : Sp := fun vs H Q _ => ∃ (f : Fm) (v : V) (l : List V) (M : Nat) (a : Addr) (L : List Str), vs = [v, .int (M : Nat), .ref a] ∧ FmAt K c H f v l ∧ Okf f ∧ f.ht ≤ n ∧ f.q.1 ≤ 40 ∧ Sv K H a (L.map V.str) ∧
  ∀ H', Kf K c H H' → Q (.bl (f.subs.all (fits1 M L))) H'
theorem ok_fits {n : Nat} (F : FunD K "fits" "Formula.fits" (defArgs sFits) (defBody sFits) (defScope sFits) [] [] f fd) (T : Cl K c) (mE : ∀ g, Meth K (clsOf c g) "_every" fE) (GE : FnOk P w K mg base CX0 (n + 1) fE fdE ["self"] (spEvery K c n)) (bE : Binds K fdE ["self"] [])
    {ff : Fm → Addr} {fdf : Fm → FuncData} (mI : ∀ g, Meth K (clsOf c g) "_fits_itself" (ff g)) (GI : ∀ g, FnOk P w K mg base CX0 1 (ff g) (fdf g) ["self", "modulus", "columns"] (spFI K c g)) (bI : ∀ g, Binds K (fdf g) ["self", "modulus", "columns"] []) (gAll : mg "all" = none) :
    FnOk P w K mg base CX0 (n + 2) f fd ["self", "modulus", "columns"] (spFits K c n) := by
  have nd := scFits.nd
  refine F.ok scFits (fun vs H Q E h => ?_) (fun cdv A outer s H vs Q E hr h => ?_)
  · obtain ⟨g, v, l, M, a, L, rfl, _⟩ := h
    rfl
  · obtain ⟨g, v, l, M, a, L, rfl, hf, og, ht, few, hS, q⟩ := h
    have r1 := hr.mono (show 1 ≤ n + 1 by omega)
    refine ⟨_, PSs.nox (pss_inj (pss_one (ps_ret (pe_callB (cr_all rfl) rfl gAll (by decide +kernel) (pa_cons (pe_lc (own := [("node", 3)]) (g := gName 3) (tt := tYes) (te := tMethI (clsOf c) "_fits_itself" (spFI K c) [] E0 (tVar 3) (tCons (tVar 1) (tCons (tVar 2) tNil))) rfl nd (pi_list (pe_methI0 (ι := Fm) (C := clsOf c) (f := fun _ => fE) (fd := fun _ => fdE) (sp := fun _ => spEvery K c n) (pv 0) (fun i => (T.at_ i).cl) mE (fun _ => GE) hr (fun _ => bE) .nil pass0)) (blkOk_by (N := nmsFi) (sc := defScope sFits) (by decide +kernel)) (fun _ _ _ _ _ => by exact pg_name (i := 3) nd rfl (Or.inl rfl)) (fun _ _ _ _ _ => by exact pts_nil) (fun _ _ _ _ _ => by exact pe_methI (ι := Fm) (C := clsOf c) (f := ff) (fd := fdf) (sp := spFI K c) (pv 3) (fun i => (T.at_ i).cl) mI GI r1 bI .nil pass0 (pa_cons (pv 1) (pa_cons (pv 2) pa_nil)))) pa_nil))))), ?_⟩
    intro inj
    obtain ⟨b, dx, fs, g1, p1, rr, rfl, el, ha, b1⟩ := id hf.obj
    walk_at "rd"
    refine lcbL ?_
    walk_at "rd"
    refine ⟨g, b, dx, fs, rfl, ha, b1.meth "_every", ?_⟩
    walk_at "rd"
    refine ⟨g, _, l, rfl, hf, og, ht, by omega, fun H1 b2 k1 hb => ?_⟩
    walk_at "rd"
    have kf1 : Kf K c H H1 := kf_seq inj k1
    have all1 := (kf1.fm og hf).all
    have ln := all1.len
    have ll := nodes_len hf
    have S1 : Sv K H1 a (L.map V.str) := hS.imp (fun z => sql_kf kf1 z) fun z => sqt_kf kf1 z
    refine ⟨b2, rfl, ⟨l, SqL.of hb⟩, ?_⟩
    refine lcRun walk_list (fun k acc G => Same H1 G ∧ acc = (g.subs.take k).map fun x => V.bl (fits1 M L x)) rfl (by omega) (fun k G x G' z => z.1) (fun k acc G z => SqL.of (z.1 _ _ hb)) ⟨Same.refl _, rfl⟩ (fun k acc G D o n z => ⟨fun b u e => by rw [upd_ne (ne_of_none e n)]; exact z.1 b u e, z.2⟩)
      (fun k x acc G yes no hk y al z hy hn => ?_) fun D acc G hD al z e => ?_
    · obtain ⟨s2, rfl⟩ := z
      obtain ⟨_, eu⟩ := y
      obtain ⟨g2, m, e2, f2⟩ := all1.get eu
      have f3 := f2.kp (kp_same s2)
      have o2 := subs_ok og g2 (List.mem_of_getElem? e2)
      obtain ⟨a2, dx2, fs2, g3, p3, r3, rfl, _, ha2, b3⟩ := id f3.obj
      refine yesT ?_
      walk_at "rd"
      refine ⟨g2, a2, dx2, fs2, rfl, ha2, b3.meth "_fits_itself", ?_⟩
      walk_at "rd"
      refine ⟨_, m, M, a, L, rfl, f3, o2, S1.same s2, ?_⟩
      refine hy _ G ⟨⟨s2, ?_⟩, fun D n e => e⟩
      rw [List.take_add_one, e2, Option.toList_some, List.map_append]
      rfl
    · obtain ⟨s2, rfl⟩ := z
      walk_at "rd"
      rw [List.take_of_length_le (by omega)] at e
      refine ⟨D, g.subs.map (fits1 M L), rfl, SqL.of (by rw [List.map_map]; exact e), ?_⟩
      rw [List.all_map]
      exact q G (kf1.trans (kf_same s2))
end
end K12

namespace K12
open PySem PySem.Spec PyProof.Rows L2
local macro_rules | `(tactic| walk_at "rd1") => `(tactic| first
  | (with_reducible refine Rd.seq ?_) | (with_reducible refine Rd.asg ?_) | (with_reducible refine Rd.ret ?_) | (with_reducible refine Rd.nxt ?_) | (with_reducible refine Rd.ifS ?_)
  | (with_reducible refine Rd.op ?_) | (with_reducible refine Rd.un ?_) | (with_reducible refine Rd.cb ?_) | (with_reducible refine Rd.cons ?_) | (with_reducible refine Rd.nil ?_) | (with_reducible refine Rd.ifx ?_)
  | (with_reducible refine Rd.test ?_) | (with_reducible refine Rd.testB ?_) | (with_reducible refine Rd.notT ?_) | (with_reducible refine Rd.isB ?_) | (with_reducible refine Rd.lst ?_) | (with_reducible refine Rd.tup ?_)
  | (with_reducible refine Rd.andV ?_) | (with_reducible refine Rd.orV ?_) | (with_reducible refine Rd.notV ?_) | (with_reducible refine Rd.andT ?_) | (with_reducible refine Rd.orT ?_) | (with_reducible refine Rd.chain ?_)
  | (with_reducible refine Rd.m0 ?_) | (with_reducible refine Rd.m1 ?_) | (with_reducible refine Rd.bm0 ?_) | (with_reducible refine Rd.bm ?_) | (with_reducible refine Rd.sl ?_) | (with_reducible refine Rd.part ?_) | (with_reducible refine Rd.part0 ?_) | (with_reducible refine Rd.isI ?_)
  | (with_reducible refine Rd.fmt ?_) | (with_reducible refine Rd.fmtRD ?_) | (with_reducible refine Rd.meth ?_) | (with_reducible refine makeG ?_) | (with_reducible refine Rd.prop ?_) | (with_reducible refine Rd.js ?_) | (with_reducible refine Rd.js0 ?_) | (with_reducible refine Rd.par ?_) | (with_reducible refine Rd.star ?_) | (with_reducible refine lcR1 ?_) | (with_reducible refine lcR2 ?_) | (with_reducible refine Rd.fld ?_) | (with_reducible refine Rd.sfld ?_) | (with_reducible refine Rd.expr ?_) | (with_reducible refine L2.isNR ?_) | (with_reducible refine L2.methI ?_) | (with_reducible refine Rd.forZ ?_)
  | (with_reducible refine Rd.forEA ?_) | (with_reducible refine Rd.forR1 ?_) | (with_reducible refine Rd.forR2 ?_) | (with_reducible refine Rd.forL ?_) | (with_reducible refine Rd.forT ?_)
  | (with_reducible refine Rd.call ?_) | (with_reducible refine Rd.asgG ?_) | (with_reducible refine Rd.gNm ?_) | (with_reducible refine Rd.gSb ?_) | (with_reducible refine Rd.gC ?_) | (with_reducible refine Rd.gN ?_)
  | ((with_reducible refine' Rd.var ?hv ?_); (case hv => exact rfl)) | (with_reducible refine Rd.c ?_) | (with_reducible refine Rd.i0 ?_) | (with_reducible refine Rd.neg ?_)
  | ((with_reducible refine' Rd.iC ?hc ?_); (case hc => first | (show (0 : Int) < _; decide) | exact ⟨by decide, by decide⟩ | exact ⟨by decide, by decide, by decide⟩ | exact .inl ⟨by decide, by decide⟩ | exact .inr ⟨by decide, by decide⟩ | exact .inl ⟨by omega, by omega⟩ | (show (0 : Int) < _; omega) | exact ⟨by omega, by omega⟩))
  | ((with_reducible refine' Rd.eqS ?hc ?_); (case hc => rfl)) | ((with_reducible refine' Rd.neS ?hc ?_); (case hc => rfl)))
local macro_rules | `(tactic| walk_at "rd") => `(tactic| repeat walk_at "rd1")
/-! ### the law's models -/
def nmW : Fm → Str
  | .num _ => "number"
  | .ref w _ => refWhere w
  | .pair o _ _ => pairWord o
  | .cho _ _ _ _ => "choice"
def leafF : Fm → Bool
  | .num _ => true
  | .ref _ _ => true
  | _ => false
theorem leaf_in {f : Fm} (o : Okf f) : inV (.str (nmW f)) [V.str "number", V.str "here", V.str "up", V.str "down"] = leafF f := by
  have h0 : inV (.str "number") [V.str "number", V.str "here", V.str "up", V.str "down"] = true ∧ inV (.str "choice") [V.str "number", V.str "here", V.str "up", V.str "down"] = false := by decide +kernel
  have h1 : ∀ w, w < 3 → inV (.str (refWhere w)) [V.str "number", V.str "here", V.str "up", V.str "down"] = true := by decide +kernel
  have h2 : ∀ w, w < 4 → inV (.str (pairWord w)) [V.str "number", V.str "here", V.str "up", V.str "down"] = false := by decide +kernel
  match f, o with
  | .num n, o => exact h0.1
  | .ref w x, o => exact h1 w o.1
  | .pair w l r, o => exact h2 w o.1
  | .cho t s a b, o => exact h0.2
def choF : Fm → Bool
  | .cho _ _ _ _ => true
  | _ => false
theorem cho_is {f : Fm} (o : Okf f) : decide (V.str (nmW f) = V.str "choice") = choF f := by
  have h0 : decide (V.str "number" = V.str "choice") = false ∧ decide (V.str "choice" = V.str "choice") = true := by decide +kernel
  have h1 : ∀ w, w < 3 → decide (V.str (refWhere w) = V.str "choice") = false := by decide +kernel
  have h2 : ∀ w, w < 4 → decide (V.str (pairWord w) = V.str "choice") = false := by decide +kernel
  match f, o with
  | .num n, o => exact h0.1
  | .ref w x, o => exact h1 w o.1
  | .pair w l r, o => exact h2 w o.1
  | .cho t s a b, o => exact h0.2
theorem ifY {b : Bool} {A B : Prop} (e : b = true) (h : A) : if b = true then A else B := by rw [if_pos e]; exact h
theorem ifZ {b : Bool} {A B : Prop} (e : b = false) (h : B) : if b = true then A else B := by rw [if_neg (by rw [e]; exact Bool.false_ne_true)]; exact h
theorem at_zero {x : V} {r : List V} : atI (x :: r) 0 = some x := by
  unfold atI ixN
  rw [if_pos (by decide), if_pos (by rw [List.length_cons]; omega)]
  rfl
def TpsAt (K : PySem.W.Frag) (H : Hp) : List Fm → List V → Prop
  | [], [] => True
  | f :: fs, v :: vs => TpAt K H f v ∧ TpsAt K H fs vs
  | _, _ => False
theorem TpsAt.append {K : PySem.W.Frag} {H : Hp} : ∀ {fs gs : List Fm} {us vs : List V}, TpsAt K H fs us → TpsAt K H gs vs → TpsAt K H (fs ++ gs) (us ++ vs)
  | [], _, [], _, _, h => h
  | _ :: _, _, _ :: _, _, ⟨a, b⟩, h => ⟨a, TpsAt.append b h⟩
  | [], _, _ :: _, _, h, _ => h.elim
  | _ :: _, _, [], _, h, _ => h.elim
theorem TpsAt.len {K : PySem.W.Frag} {H : Hp} : ∀ {fs : List Fm} {vs : List V}, TpsAt K H fs vs → fs.length = vs.length
  | [], [], _ => rfl
  | _ :: _, _ :: _, h => congrArg (· + 1) (TpsAt.len h.2)
  | [], _ :: _, h => h.elim
  | _ :: _, [], h => h.elim
theorem TpsAt.get {K : PySem.W.Frag} {H : Hp} : ∀ {fs : List Fm} {vs : List V} {i : Nat} {v : V}, TpsAt K H fs vs → vs[i]? = some v → ∃ f, fs[i]? = some f ∧ TpAt K H f v
  | f :: fs, _ :: _, 0, v, h, e => by
    cases e
    exact ⟨f, rfl, h.1⟩
  | _ :: _, _ :: _, i + 1, v, h, e => TpsAt.get (i := i) h.2 e
  | [], [], _, _, _, e => by simp at e
  | [], _ :: _, _, _, h, _ => h.elim
  | _ :: _, [], _, _, h, _ => h.elim
theorem TpsAt.kf {K : PySem.W.Frag} {c : Cs} {H H' : Hp} (k : Kf K c H H') : ∀ {fs : List Fm} {vs : List V}, TpsAt K H fs vs → TpsAt K H' fs vs
  | [], [], h => h
  | _ :: _, _ :: _, h => ⟨h.1.kf k, TpsAt.kf k h.2⟩
  | [], _ :: _, h => h.elim
  | _ :: _, [], h => h.elim
theorem TpsAt.kp {K : PySem.W.Frag} {H H' : Hp} (k : Kp H H') : ∀ {fs : List Fm} {vs : List V}, TpsAt K H fs vs → TpsAt K H' fs vs
  | [], [], h => h
  | _ :: _, _ :: _, h => ⟨h.1.kp k, TpsAt.kp k h.2⟩
  | [], _ :: _, h => h.elim
  | _ :: _, [], h => h.elim
theorem TpAt.wd {K : PySem.W.Frag} {H : Hp} {f : Fm} {v : V} (h : TpAt K H f v) : ∃ a r, v = .ref a ∧ SqT K H a (.str (nmW f) :: r) := by
  cases f with
  | num n => exact ⟨h.choose, _, h.choose_spec.1, h.choose_spec.2⟩
  | ref w x => exact ⟨h.choose, _, h.choose_spec.1, h.choose_spec.2⟩
  | pair o l r =>
    obtain ⟨a, v1, v2, e, hs, _⟩ := h
    exact ⟨a, _, e, hs⟩
  | cho t s x y =>
    obtain ⟨a, v1, b, v2, v3, e, hs, _⟩ := h
    exact ⟨a, _, e, hs⟩
abbrev sInn : Stmt := topA i_law_inner
abbrev sAll : Stmt := topA i_law_all
abbrev sDeep : Stmt := topA i_law_deep
def spInn (K : PySem.W.Frag) : Sp := fun vs H Q _ => ∃ (f : Fm) (v : V), vs = [v] ∧ TpAt K H f v ∧ Okf f ∧ ∀ p us H', Same H H' → H p = none → H' p = some (.lst us) → TpsAt K H' (partsOf f) us → Q (.ref p) H'
section
variable {P : Program} {w : World} {K : PySem.W.Frag} {mg : Str → Option Value} {base : Heap} {c : Cs} {f fI : Addr} {fd fdI : FuncData}
theorem scInn : FnScope ["_law_part_here"] ["_law_part_here"] (defScope sInn) := ⟨rfl, rfl, rfl, by decide +kernel, rfl, by decide +kernel, by decide +kernel⟩
theorem ok_inn (F : FnP K "_law_inner" sInn f fd) : FnOk P w K mg base CX0 1 f fd ["_law_part_here"] (spInn K) := by
  refine F.ok scInn (fun vs H Q E h => ?_) (fun cdv A outer s H vs Q E hr h => ?_)
  · obtain ⟨g, v, rfl, _⟩ := h
    rfl
  · obtain ⟨g, v, rfl, tp, og, q⟩ := h
    refine ⟨_, PSs.nox (pss_cons (ps_if (pt_cmpR op_eq (pe_ix ix_tup (pv 0) pe_int (fun _ _ => rfl)) pe_str (nomark _)) (pss_one (ps_ret (pe_lst (pa_cons (pe_ix ix_tup (pv 0) pe_int (fun _ _ => rfl)) (pa_cons (pe_ix ix_tup (pv 0) pe_int (fun _ _ => rfl)) (pa_cons (pe_ix ix_tup (pv 0) pe_int (fun _ _ => rfl)) pa_nil)))))) pss_nil)
        (pss_one (ps_ret (pe_ifExp (pt_cmpR op_in_seq (pe_ix ix_tup (pv 0) pe_int (fun _ _ => rfl)) (pe_tup (pa_cons pe_str (pa_cons pe_str (pa_cons pe_str (pa_cons pe_str pa_nil))))) rfl) (pe_lst pa_nil) (pe_lst (pa_cons (pe_ix ix_tup (pv 0) pe_int (fun _ _ => rfl)) (pa_cons (pe_ix ix_tup (pv 0) pe_int (fun _ _ => rfl)) pa_nil))))))), ?_⟩
    obtain ⟨a, rr, rfl, hw⟩ := tp.wd
    walk_at "rd"
    refine Rd.ixT hw at_zero ?_
    walk_at "rd"
    have ci := cho_is og
    cases g with
    | cho t s x y =>
      obtain ⟨a', v1, b, v2, v3, e, hs, t1, _, t2, t9⟩ := tp
      cases e
      refine ifY ci ?_
      walk_at "rd"
      refine Rd.ixT hs rfl ?_
      walk_at "rd"
      refine Rd.ixT hs rfl ?_
      walk_at "rd"
      refine Rd.ixT hs rfl ?_
      walk_at "rd"
      refine ⟨Rd.small (by show 3 ≤ 100000; decide), fun p3 n3 => ?_⟩
      have s3 := same_new (o := HO.lst ([v1, v2, v3])) n3
      have t3 := upd_same (H := H) (a := p3) (o := HO.lst ([v1, v2, v3]))
      generalize upd H p3 (HO.lst ([v1, v2, v3])) = H1 at s3 t3 ⊢
      walk_at "rd"
      exact q p3 _ H1 s3 n3 t3 ⟨t1.kp (kp_same s3), t2.kp (kp_same s3), t9.kp (kp_same s3), trivial⟩
    | pair o l r =>
      obtain ⟨a', v1, v2, e, hs, t1, t2⟩ := tp
      cases e
      refine ifZ ci ?_
      walk_at "rd"
      refine Rd.ixT hs at_zero ?_
      walk_at "rd"
      refine ⟨Rd.small (by show 4 ≤ 100000; decide), fun p3 n3 => ?_⟩
      have s3 := same_new (o := HO.tup ([V.str "number", V.str "here", V.str "up", V.str "down"])) n3
      have t3 := upd_same (H := H) (a := p3) (o := HO.tup ([V.str "number", V.str "here", V.str "up", V.str "down"]))
      generalize upd H p3 (HO.tup ([V.str "number", V.str "here", V.str "up", V.str "down"])) = H1 at s3 t3 ⊢
      walk_at "rd"
      refine ⟨p3, _, rfl, .inr (SqT.of t3), rfl, rfl, ?_⟩
      rw [if_neg (by decide)]
      refine ⟨_, rfl, ?_⟩
      rw [show inV (V.str (pairWord o)) [V.str "number", V.str "here", V.str "up", V.str "down"] = false from leaf_in og]
      refine iteF ?_
      walk_at "rd"
      refine Rd.ixT (hs.ext s3) rfl ?_
      walk_at "rd"
      refine Rd.ixT (hs.ext s3) rfl ?_
      walk_at "rd"
      refine ⟨Rd.small (by show 2 ≤ 100000; decide), fun p4 n4 => ?_⟩
      have s4 := same_new (o := HO.lst ([v1, v2])) n4
      have t4 := upd_same (H := H1) (a := p4) (o := HO.lst ([v1, v2]))
      generalize upd H1 p4 (HO.lst ([v1, v2])) = H2 at s4 t4 ⊢
      walk_at "rd"
      have s5 := s3.trans s4
      exact q p4 _ H2 s5 (s3.free n4) t4 ⟨t1.kp (kp_same s5), t2.kp (kp_same s5), trivial⟩
    | _ =>
      refine ifZ ci ?_
      walk_at "rd"
      refine Rd.ixT hw at_zero ?_
      walk_at "rd"
      refine ⟨Rd.small (by show 4 ≤ 100000; decide), fun p3 n3 => ?_⟩
      have s3 := same_new (o := HO.tup ([V.str "number", V.str "here", V.str "up", V.str "down"])) n3
      have t3 := upd_same (H := H) (a := p3) (o := HO.tup ([V.str "number", V.str "here", V.str "up", V.str "down"]))
      generalize upd H p3 (HO.tup ([V.str "number", V.str "here", V.str "up", V.str "down"])) = H1 at s3 t3 ⊢
      walk_at "rd"
      refine ⟨p3, _, rfl, .inr (SqT.of t3), rfl, rfl, ?_⟩
      rw [if_neg (by decide)]
      refine ⟨_, rfl, ?_⟩
      rw [leaf_in og]
      refine iteT ?_
      walk_at "rd"
      refine ⟨Rd.small (by show 0 ≤ 100000; decide), fun p4 n4 => ?_⟩
      have s4 := same_new (o := HO.lst ([])) n4
      have t4 := upd_same (H := H1) (a := p4) (o := HO.lst ([]))
      generalize upd H1 p4 (HO.lst ([])) = H2 at s4 t4 ⊢
      walk_at "rd"
      exact q p4 _ H2 (s3.trans s4) (s3.free n4) t4 trivial
end
end K12

namespace K12
open PySem PySem.Spec PyProof.Rows L2
local macro_rules | `(tactic| walk_at "rd1") => `(tactic| first
  | (with_reducible refine Rd.seq ?_) | (with_reducible refine Rd.asg ?_) | (with_reducible refine Rd.ret ?_) | (with_reducible refine Rd.nxt ?_) | (with_reducible refine Rd.ifS ?_)
  | (with_reducible refine Rd.op ?_) | (with_reducible refine Rd.un ?_) | (with_reducible refine Rd.cb ?_) | (with_reducible refine Rd.cons ?_) | (with_reducible refine Rd.nil ?_) | (with_reducible refine Rd.ifx ?_)
  | (with_reducible refine Rd.test ?_) | (with_reducible refine Rd.testB ?_) | (with_reducible refine Rd.notT ?_) | (with_reducible refine Rd.isB ?_) | (with_reducible refine Rd.lst ?_) | (with_reducible refine Rd.tup ?_)
  | (with_reducible refine Rd.andV ?_) | (with_reducible refine Rd.orV ?_) | (with_reducible refine Rd.notV ?_) | (with_reducible refine Rd.andT ?_) | (with_reducible refine Rd.orT ?_) | (with_reducible refine Rd.chain ?_)
  | (with_reducible refine Rd.m0 ?_) | (with_reducible refine Rd.m1 ?_) | (with_reducible refine Rd.bm0 ?_) | (with_reducible refine Rd.bm ?_) | (with_reducible refine Rd.sl ?_) | (with_reducible refine Rd.part ?_) | (with_reducible refine Rd.part0 ?_) | (with_reducible refine Rd.isI ?_)
  | (with_reducible refine Rd.fmt ?_) | (with_reducible refine Rd.fmtRD ?_) | (with_reducible refine Rd.meth ?_) | (with_reducible refine makeG ?_) | (with_reducible refine Rd.prop ?_) | (with_reducible refine Rd.js ?_) | (with_reducible refine Rd.js0 ?_) | (with_reducible refine Rd.par ?_) | (with_reducible refine Rd.star ?_) | (with_reducible refine lcR1 ?_) | (with_reducible refine lcR2 ?_) | (with_reducible refine Rd.fld ?_) | (with_reducible refine Rd.sfld ?_) | (with_reducible refine Rd.expr ?_) | (with_reducible refine L2.isNR ?_) | (with_reducible refine L2.methI ?_) | (with_reducible refine Rd.forZ ?_)
  | (with_reducible refine Rd.forEA ?_) | (with_reducible refine Rd.forR1 ?_) | (with_reducible refine Rd.forR2 ?_) | (with_reducible refine Rd.forL ?_) | (with_reducible refine Rd.forT ?_)
  | (with_reducible refine Rd.call ?_) | (with_reducible refine Rd.asgG ?_) | (with_reducible refine Rd.gNm ?_) | (with_reducible refine Rd.gSb ?_) | (with_reducible refine Rd.gC ?_) | (with_reducible refine Rd.gN ?_)
  | ((with_reducible refine' Rd.var ?hv ?_); (case hv => exact rfl)) | (with_reducible refine Rd.c ?_) | (with_reducible refine Rd.i0 ?_) | (with_reducible refine Rd.neg ?_)
  | ((with_reducible refine' Rd.iC ?hc ?_); (case hc => first | (show (0 : Int) < _; decide) | exact ⟨by decide, by decide⟩ | exact ⟨by decide, by decide, by decide⟩ | exact .inl ⟨by decide, by decide⟩ | exact .inr ⟨by decide, by decide⟩ | exact .inl ⟨by omega, by omega⟩ | (show (0 : Int) < _; omega) | exact ⟨by omega, by omega⟩))
  | ((with_reducible refine' Rd.eqS ?hc ?_); (case hc => rfl)) | ((with_reducible refine' Rd.neS ?hc ?_); (case hc => rfl)))
local macro_rules | `(tactic| walk_at "rd") => `(tactic| repeat walk_at "rd1")
theorem TpAt.list {K : PySem.W.Frag} {H : Hp} {D : Addr} {us : List V} {o : HO} (hD : H D = some (.lst us)) : ∀ {f : Fm} {v : V}, TpAt K H f v → TpAt K (upd H D o) f v
  | .num n, v, ⟨a, e, h⟩ => ⟨a, e, sqt_list hD h⟩
  | .ref w x, v, ⟨a, e, h⟩ => ⟨a, e, sqt_list hD h⟩
  | .pair w f1 f2, v, ⟨a, v1, v2, e, h, h1, h2⟩ => ⟨a, v1, v2, e, sqt_list hD h, TpAt.list hD h1, TpAt.list hD h2⟩
  | .cho f1 s f2 f3, v, ⟨a, v1, t, v2, v3, e, h, h1, h2, h3, h4⟩ => ⟨a, v1, t, v2, v3, e, sqt_list hD h, TpAt.list hD h1, sqt_list hD h2, TpAt.list hD h3, TpAt.list hD h4⟩
theorem TpsAt.list {K : PySem.W.Frag} {H : Hp} {D : Addr} {us : List V} {o : HO} (hD : H D = some (.lst us)) : ∀ {fs : List Fm} {vs : List V}, TpsAt K H fs vs → TpsAt K (upd H D o) fs vs
  | [], [], h => h
  | _ :: _, _ :: _, h => ⟨h.1.list hD, TpsAt.list hD h.2⟩
  | [], _ :: _, h => h.elim
  | _ :: _, [], h => h.elim
theorem subs_parts : ∀ f : Fm, f.subs = f :: ((partsOf f).map Fm.subs).flatten
  | .num _ => rfl
  | .ref _ _ => rfl
  | .pair o l r => by
    show _ :: (l.subs ++ r.subs) = _ :: ([l.subs, r.subs] : List (List Fm)).flatten
    simp
  | .cho t s a b => by
    show _ :: (t.subs ++ (a.subs ++ b.subs)) = _ :: ([t.subs, a.subs, b.subs] : List (List Fm)).flatten
    simp
theorem subs_len : ∀ f : Fm, f.subs.length = f.q.1
  | .num _ => rfl
  | .ref _ _ => rfl
  | .pair o l r => by
    have a := subs_len l
    have b := subs_len r
    show (l.subs ++ r.subs).length + 1 = fmN [l.q, r.q]
    rw [List.length_append, a, b]
    unfold fmN
    simp only [List.foldl]
    omega
  | .cho t s x y => by
    have a := subs_len t
    have b := subs_len x
    have d := subs_len y
    show (t.subs ++ (x.subs ++ y.subs)).length + 1 = fmN [t.q, x.q, y.q]
    rw [List.length_append, List.length_append, a, b, d]
    unfold fmN
    simp only [List.foldl]
    omega
theorem parts_ok {f g : Fm} (o : Okf f) (m : g ∈ partsOf f) : Okf g ∧ g.ht + 1 ≤ f.ht := by
  cases f with
  | num _ => cases m
  | ref _ _ => cases m
  | pair w l r =>
    have h : (Fm.pair w l r).ht = max l.ht r.ht + 1 := rfl
    have m : g ∈ [l, r] := m
    simp only [List.mem_cons, List.not_mem_nil, or_false] at m
    rcases m with rfl | rfl
    · exact ⟨o.2.1, by omega⟩
    · exact ⟨o.2.2, by omega⟩
  | cho t s a b =>
    have h : (Fm.cho t s a b).ht = max t.ht (max a.ht b.ht) + 1 := rfl
    have m : g ∈ [t, a, b] := m
    simp only [List.mem_cons, List.not_mem_nil, or_false] at m
    rcases m with rfl | rfl | rfl
    · exact ⟨o.2.1, by omega⟩
    · exact ⟨o.2.2.1, by omega⟩
    · exact ⟨o.2.2.2, by omega⟩
theorem parts_len {f : Fm} {i : Nat} {g : Fm} (e : (partsOf f)[i]? = some g) : (((partsOf f).take i).map Fm.subs).flatten.length + g.subs.length + 1 ≤ f.q.1 := by
  rw [← subs_len f, subs_parts f, List.length_cons]
  have e2 : ((partsOf f).map Fm.subs).flatten = (((partsOf f).take (i + 1)).map Fm.subs).flatten ++ (((partsOf f).drop (i + 1)).map Fm.subs).flatten := by rw [← List.flatten_append, ← List.map_append, List.take_append_drop]
  rw [e2, List.take_add_one, e, Option.toList_some, List.map_append, List.flatten_append]
  simp
def spAll (K : PySem.W.Frag) (n : Nat) : Sp := fun vs H Q _ => ∃ (f : Fm) (v : V), vs = [v] ∧ TpAt K H f v ∧ Okf f ∧ f.ht ≤ n ∧ f.q.1 ≤ 1000 ∧ ∀ p us H', Same H H' → H p = none → H' p = some (.lst us) → TpsAt K H' f.subs us → Q (.ref p) H'
section
variable {P : Program} {w : World} {K : PySem.W.Frag} {mg : Str → Option Value} {base : Heap} {c : Cs} {f fI : Addr} {fd fdI : FuncData}
theorem scAll : FnScope ["_law_part_here", "_law_found", "_law_one"] ["_law_part_here"] (defScope sAll) := ⟨rfl, rfl, rfl, by decide +kernel, rfl, by decide +kernel, by decide +kernel⟩
theorem ok_all (F : FnP K "_law_all" sAll f fd) (gA : mg "_law_all" = some (.ref f)) (FI : FnP K "_law_inner" sInn fI fdI) (GI : FnOk P w K mg base CX0 1 fI fdI ["_law_part_here"] (spInn K)) (gI : mg "_law_inner" = some (.ref fI)) :
    ∀ n, FnOk P w K mg base CX0 (n + 1) f fd ["_law_part_here"] (spAll K n) := by
  have bF : Binds K fd ["_law_part_here"] [] := F.bindsN fun _ _ _ _ _ _ us hl => match us, hl with | [_], _ => rfl
  have bI : Binds K fdI ["_law_part_here"] [] := FI.bindsN fun _ _ _ _ _ _ us hl => match us, hl with | [_], _ => rfl
  have nd := scAll.nd
  intro n
  induction n with
  | zero =>
    refine F.ok scAll (fun vs H Q E h => ?_) (fun cdv A outer s H vs Q E hr h => ?_)
    · obtain ⟨g, v, rfl, _⟩ := h
      rfl
    · obtain ⟨g, v, rfl, _, _, ht, _⟩ := h
      cases g <;> simp [Fm.ht] at ht
  | succ n ih =>
    refine F.ok scAll (fun vs H Q E h => ?_) (fun cdv A outer s H vs Q E hr h => ?_)
    · obtain ⟨g, v, rfl, _⟩ := h
      rfl
    · obtain ⟨g, v, rfl, tp, og, ht, few, q⟩ := h
      have r1 := hr.mono (show 1 ≤ n + 1 by omega)
      refine ⟨_, PSs.nox (pss_cons (ps_set (i := 1) nd rfl (Or.inl rfl) (pe_lst (pa_cons (pv 0) pa_nil)))
        (pss_cons (ps_for PassesOwn.never rfl (pi_list (pe_call GI r1 rfl gI FI.kp bI .nil pass0 (pa_cons (pv 0) pa_nil))) (pg_name (i := 2) nd rfl (Or.inl rfl)) (pss_one (ps_expr (pe_bm PySem.F.plainAttrs_list PySem.F.slot_list_extend PySem.F.type_list_extend mt_extend (pv 1) (pa_cons (pe_call ih hr rfl gA F.kp bF .nil pass0 (pa_cons (pv 2) pa_nil)) pa_nil)))))
        (pss_one (ps_ret (pv 1))))), ?_⟩
      walk_at "rd"
      refine ⟨Rd.small (by show 1 ≤ 100000; decide), fun D nD => ?_⟩
      have sD := same_new (o := HO.lst ([v])) nD
      have tD := upd_same (H := H) (a := D) (o := HO.lst ([v]))
      generalize upd H D (HO.lst ([v])) = H1 at sD tD ⊢
      walk_at "rd"
      have tp1 := tp.kp (kp_same sD)
      refine ⟨g, v, rfl, tp1, og, fun p us H2 s2 np e2 ts => ?_⟩
      walk_at "rd"
      refine ⟨p, rfl, ⟨_, SqL.of e2⟩, ?_⟩
      have lts := ts.len
      refine for_it walk_list (fun i σ G => ∃ acc b, σ = [some v, some (.ref D), b] ∧ Same H G ∧ G D = some (.lst (v :: acc)) ∧ G p = some (.lst us) ∧ TpsAt K G (((partsOf g).take i).map Fm.subs).flatten acc ∧ TpsAt K G (partsOf g) us)
        ⟨[], _, rfl, sD.trans s2, s2 _ _ tD, e2, trivial, ts⟩ (fun i σ G _ ⟨_, _, _, _, _, z, _⟩ => SqL.of z) (fun i u σ G G' hi hy z => ?_) (fun σ G z => ?_)
      · obtain ⟨acc, b, rfl, sG, eD, eP, tG, tU⟩ := hy
        obtain ⟨rfl, eu⟩ := z
        obtain ⟨g2, eg, tg⟩ := tU.get eu
        obtain ⟨o2, h2⟩ := parts_ok og (List.mem_of_getElem? eg)
        have pl := parts_len eg
        have sl := subs_len g2
        have al := tG.len
        walk_at "rd"
        refine ⟨.inl ⟨rfl, _, SqL.of eD⟩, ?_⟩
        walk_at "rd"
        refine ⟨g2, u, rfl, tg, o2, by omega, by omega, fun p4 us4 H4 s4 n4 e4 t4 => ?_⟩
        have d4 := s4 _ _ eD
        have ne : D ≠ p := ne_of_none tD np
        refine ⟨D, p4, _, _, rfl, rfl, d4, e4, Rd.small (by rw [List.length_cons, ← t4.len]; omega), ?_⟩
        have st : Same H (upd H4 D (.lst ((v :: acc) ++ us4))) := fun b o e => by rw [upd_ne (ne_of_none e nD)]; exact s4 _ _ (sG b o e)
        refine ⟨acc ++ us4, _, rfl, st, upd_same, ?_, ?_, (tU.kp (kp_same s4)).list d4⟩
        · rw [upd_ne (Ne.symm ne)]
          exact s4 _ _ eP
        · rw [List.take_add_one, eg, Option.toList_some, List.map_append, List.flatten_append]
          exact ((tG.kp (kp_same s4)).list d4).append (by simpa using t4.list d4)
      · obtain ⟨acc, b, rfl, sG, eD, _, tG, _⟩ := z
        rw [← lts, List.take_length] at tG
        walk_at "rd"
        refine q D (v :: acc) G sG nD eD ?_
        rw [subs_parts g]
        exact ⟨tp.kp (kp_same sG), tG⟩
end
end K12

namespace K12
open PySem PySem.Spec PyProof.Rows L2
local macro_rules | `(tactic| walk_at "rd1") => `(tactic| first
  | (with_reducible refine Rd.seq ?_) | (with_reducible refine Rd.asg ?_) | (with_reducible refine Rd.ret ?_) | (with_reducible refine Rd.nxt ?_) | (with_reducible refine Rd.ifS ?_)
  | (with_reducible refine Rd.op ?_) | (with_reducible refine Rd.un ?_) | (with_reducible refine Rd.cb ?_) | (with_reducible refine Rd.cons ?_) | (with_reducible refine Rd.nil ?_) | (with_reducible refine Rd.ifx ?_)
  | (with_reducible refine Rd.test ?_) | (with_reducible refine Rd.testB ?_) | (with_reducible refine Rd.notT ?_) | (with_reducible refine Rd.isB ?_) | (with_reducible refine Rd.lst ?_) | (with_reducible refine Rd.tup ?_)
  | (with_reducible refine Rd.andV ?_) | (with_reducible refine Rd.orV ?_) | (with_reducible refine Rd.notV ?_) | (with_reducible refine Rd.andT ?_) | (with_reducible refine Rd.orT ?_) | (with_reducible refine Rd.chain ?_)
  | (with_reducible refine Rd.m0 ?_) | (with_reducible refine Rd.m1 ?_) | (with_reducible refine Rd.bm0 ?_) | (with_reducible refine Rd.bm ?_) | (with_reducible refine Rd.sl ?_) | (with_reducible refine Rd.part ?_) | (with_reducible refine Rd.part0 ?_) | (with_reducible refine Rd.isI ?_)
  | (with_reducible refine Rd.fmt ?_) | (with_reducible refine Rd.fmtRD ?_) | (with_reducible refine Rd.meth ?_) | (with_reducible refine makeG ?_) | (with_reducible refine Rd.prop ?_) | (with_reducible refine Rd.js ?_) | (with_reducible refine Rd.js0 ?_) | (with_reducible refine Rd.par ?_) | (with_reducible refine Rd.star ?_) | (with_reducible refine lcR1 ?_) | (with_reducible refine lcR2 ?_) | (with_reducible refine Rd.fld ?_) | (with_reducible refine Rd.sfld ?_) | (with_reducible refine Rd.expr ?_) | (with_reducible refine L2.isNR ?_) | (with_reducible refine L2.methI ?_) | (with_reducible refine Rd.forZ ?_)
  | (with_reducible refine Rd.forEA ?_) | (with_reducible refine Rd.forR1 ?_) | (with_reducible refine Rd.forR2 ?_) | (with_reducible refine Rd.forL ?_) | (with_reducible refine Rd.forT ?_)
  | (with_reducible refine Rd.call ?_) | (with_reducible refine Rd.asgG ?_) | (with_reducible refine Rd.gNm ?_) | (with_reducible refine Rd.gSb ?_) | (with_reducible refine Rd.gC ?_) | (with_reducible refine Rd.gN ?_)
  | ((with_reducible refine' Rd.var ?hv ?_); (case hv => exact rfl)) | (with_reducible refine Rd.c ?_) | (with_reducible refine Rd.i0 ?_) | (with_reducible refine Rd.neg ?_)
  | ((with_reducible refine' Rd.iC ?hc ?_); (case hc => first | (show (0 : Int) < _; decide) | exact ⟨by decide, by decide⟩ | exact ⟨by decide, by decide, by decide⟩ | exact .inl ⟨by decide, by decide⟩ | exact .inr ⟨by decide, by decide⟩ | exact .inl ⟨by omega, by omega⟩ | (show (0 : Int) < _; omega) | exact ⟨by omega, by omega⟩))
  | ((with_reducible refine' Rd.eqS ?hc ?_); (case hc => rfl)) | ((with_reducible refine' Rd.neS ?hc ?_); (case hc => rfl)))
local macro_rules | `(tactic| walk_at "rd") => `(tactic| repeat walk_at "rd1")
def deeps (f : Fm) : List Int := (-1) :: (partsOf f).map fun g => ((g.q.2 : Nat) : Int)
theorem deep_max {f : Fm} {m : Int} (hm : m ∈ deeps f) (h : ∀ y, y ∈ deeps f → y ≤ m) : m + 1 = ((f.q.2 : Nat) : Int) := by
  cases f with
  | num n =>
    rw [List.mem_singleton.mp (show m ∈ [(-1 : Int)] from hm)]
    rfl
  | ref w x =>
    rw [List.mem_singleton.mp (show m ∈ [(-1 : Int)] from hm)]
    rfl
  | pair o l r =>
    have hm : m ∈ [(-1 : Int), ((l.q.2 : Nat) : Int), ((r.q.2 : Nat) : Int)] := hm
    have h1 := h ((l.q.2 : Nat) : Int) (show _ ∈ [(-1 : Int), ((l.q.2 : Nat) : Int), ((r.q.2 : Nat) : Int)] by simp)
    have h2 := h ((r.q.2 : Nat) : Int) (show _ ∈ [(-1 : Int), ((l.q.2 : Nat) : Int), ((r.q.2 : Nat) : Int)] by simp)
    simp only [List.mem_cons, List.not_mem_nil, or_false] at hm
    show m + 1 = ((fmD [l.q, r.q] : Nat) : Int)
    unfold fmD
    simp only [List.foldl]
    split <;> split <;> omega
  | cho t s a b =>
    have hm : m ∈ [(-1 : Int), ((t.q.2 : Nat) : Int), ((a.q.2 : Nat) : Int), ((b.q.2 : Nat) : Int)] := hm
    have h1 := h ((t.q.2 : Nat) : Int) (show _ ∈ [(-1 : Int), ((t.q.2 : Nat) : Int), ((a.q.2 : Nat) : Int), ((b.q.2 : Nat) : Int)] by simp)
    have h2 := h ((a.q.2 : Nat) : Int) (show _ ∈ [(-1 : Int), ((t.q.2 : Nat) : Int), ((a.q.2 : Nat) : Int), ((b.q.2 : Nat) : Int)] by simp)
    have h3 := h ((b.q.2 : Nat) : Int) (show _ ∈ [(-1 : Int), ((t.q.2 : Nat) : Int), ((a.q.2 : Nat) : Int), ((b.q.2 : Nat) : Int)] by simp)
    simp only [List.mem_cons, List.not_mem_nil, or_false] at hm
    show m + 1 = ((fmD [t.q, a.q, b.q] : Nat) : Int)
    unfold fmD
    simp only [List.foldl]
    split <;> split <;> split <;> omega
def spDeep (K : PySem.W.Frag) (n : Nat) : Sp := fun vs H Q _ => ∃ (f : Fm) (v : V), vs = [v] ∧ TpAt K H f v ∧ Okf f ∧ f.ht ≤ n ∧ ∀ H', Same H H' → Q (natV f.q.2) H'
theorem parts_few (f : Fm) : (partsOf f).length ≤ 3 := by
  match f with
  | .num _ => exact Nat.zero_le _
  | .ref _ _ => exact Nat.zero_le _
  | .pair _ _ _ => exact (show 2 ≤ 3 by decide)
  | .cho _ _ _ _ => exact Nat.le_refl _
section
variable {P : Program} {w : World} {K : PySem.W.Frag} {mg : Str → Option Value} {base : Heap} {c : Cs} {f fI : Addr} {fd fdI : FuncData}
abbrev nmsDp : List Str := ["_law_part_here", "_law_one"]
theorem scDeep : FnScope nmsDp ["_law_part_here"] (defScope sDeep) := ⟨rfl, rfl, rfl, by decide +kernel, rfl, by decide +kernel, by decide +kernel⟩
theorem ok_deep (F : FnP K "_law_deep" sDeep f fd) (gD : mg "_law_deep" = some (.ref f)) (FI : FnP K "_law_inner" sInn fI fdI) (GI : FnOk P w K mg base CX0 1 fI fdI ["_law_part_here"] (spInn K)) (gI : mg "_law_inner" = some (.ref fI)) (gMax : mg "max" = none) :
    ∀ n, FnOk P w K mg base CX0 (n + 1) f fd ["_law_part_here"] (spDeep K n) := by
  have bF : Binds K fd ["_law_part_here"] [] := F.bindsN fun _ _ _ _ _ _ us hl => match us, hl with | [_], _ => rfl
  have bI : Binds K fdI ["_law_part_here"] [] := FI.bindsN fun _ _ _ _ _ _ us hl => match us, hl with | [_], _ => rfl
  have nd := scDeep.nd
  intro n
  induction n with
  | zero =>
    refine F.ok scDeep (fun vs H Q E h => ?_) (fun cdv A outer s H vs Q E hr h => ?_)
    · obtain ⟨g, v, rfl, _⟩ := h
      rfl
    · obtain ⟨g, v, rfl, _, _, ht, _⟩ := h
      cases g <;> simp [Fm.ht] at ht
  | succ n ih =>
    refine F.ok scDeep (fun vs H Q E h => ?_) (fun cdv A outer s H vs Q E hr h => ?_)
    · obtain ⟨g, v, rfl, _⟩ := h
      rfl
    · obtain ⟨g, v, rfl, tp, og, ht, q⟩ := h
      have r1 := hr.mono (show 1 ≤ n + 1 by omega)
      refine ⟨_, PSs.nox (pss_one (ps_ret (pe_op op_add (pe_callB (cr_max rfl) rfl gMax boot_max (pa_cons (pe_op op_cat (pe_lst (pa_cons (pe_un un_neg pe_int) pa_nil)) (pe_lc (own := [("_law_one", 1)]) (g := gName 1) (tt := tYes) (te := tCall (spDeep K n) [] E0 (tCons (tVar 1) tNil)) rfl nd (pi_list (pe_call GI r1 rfl gI FI.kp bI .nil pass0 (pa_cons (pv 0) pa_nil))) (blkOk_by (N := nmsDp) (sc := defScope sDeep) (by decide +kernel)) (fun _ _ _ _ _ => by exact pg_name (i := 1) nd rfl (Or.inl rfl)) (fun _ _ _ _ _ => by exact pts_nil) (fun _ _ _ _ _ => by exact pe_call ih hr rfl gD F.kp bF .nil pass0 (pa_cons (pv 1) pa_nil)))) pa_nil)) pe_int))), ?_⟩
      walk_at "rd"
      refine ⟨Rd.small (by show 1 ≤ 100000; decide), fun D nD => ?_⟩
      have sD := same_new (o := HO.lst ([V.int (-1)])) nD
      have tD := upd_same (H := H) (a := D) (o := HO.lst ([V.int (-1)]))
      generalize upd H D (HO.lst ([V.int (-1)])) = H1 at sD tD ⊢
      walk_at "rd"
      refine lcbL ?_
      walk_at "rd"
      have tp1 := tp.kp (kp_same sD)
      refine ⟨g, v, rfl, tp1, og, fun p us H2 s2 np e2 ts => ?_⟩
      walk_at "rd"
      refine ⟨p, rfl, ⟨_, SqL.of e2⟩, ?_⟩
      have lts := ts.len
      have pf := parts_few g
      refine lcRun walk_list (fun k acc G => Same H2 G ∧ acc = ((partsOf g).take k).map fun x => natV x.q.2) rfl (by omega) (fun k G x G' z => z.1) (fun k acc G z => SqL.of (z.1 _ _ e2)) ⟨Same.refl _, rfl⟩ (fun k acc G D o n z => ⟨fun b u e => by rw [upd_ne (ne_of_none e n)]; exact z.1 b u e, z.2⟩)
        (fun k x acc G yes no hk y al z hy hn => ?_) fun D2 acc G hD al z e => ?_
      · obtain ⟨sG, rfl⟩ := z
        obtain ⟨_, eu⟩ := y
        obtain ⟨g2, eg, tg⟩ := ts.get eu
        obtain ⟨o2, h2⟩ := parts_ok og (List.mem_of_getElem? eg)
        refine yesT ?_
        walk_at "rd"
        refine ⟨g2, x, rfl, tg.kp (kp_same sG), o2, by omega, fun H4 s4 => ?_⟩
        refine hy _ H4 ⟨⟨sG.trans s4, ?_⟩, fun D n e => s4 _ _ e⟩
        rw [List.take_add_one, eg, Option.toList_some, List.map_append]
        rfl
      · obtain ⟨sG, rfl⟩ := z
        rw [List.take_of_length_le (by omega)] at e
        walk_at "rd"
        refine ⟨D, D2, _, _, rfl, rfl, sG _ _ (s2 _ _ tD), e, Rd.small (by rw [List.length_map]; show 1 + (partsOf g).length ≤ 100000; omega), fun p3 n3 => ?_⟩
        walk_at "rd"
        have em : V.int (-1) :: (partsOf g).map (fun x => natV x.q.2) = (deeps g).map V.int := by
          unfold deeps
          rw [List.map_cons, List.map_map]
          rfl
        refine ⟨p3, deeps g, rfl, SqL.of (by rw [← em]; exact upd_same), by show 0 < _ + 1; omega, fun m hm hy => ?_⟩
        walk_at "rd"
        show Q (V.int (m + 1)) _
        rw [deep_max hm hy]
        exact q _ (((sD.trans s2).trans sG).trans (same_new n3))
end
end K12

namespace K12
open PySem PySem.Spec PyProof.Rows L2
local macro_rules | `(tactic| walk_at "rd1") => `(tactic| first
  | (with_reducible refine Rd.seq ?_) | (with_reducible refine Rd.asg ?_) | (with_reducible refine Rd.ret ?_) | (with_reducible refine Rd.nxt ?_) | (with_reducible refine Rd.ifS ?_)
  | (with_reducible refine Rd.op ?_) | (with_reducible refine Rd.un ?_) | (with_reducible refine Rd.cb ?_) | (with_reducible refine Rd.cons ?_) | (with_reducible refine Rd.nil ?_) | (with_reducible refine Rd.ifx ?_)
  | (with_reducible refine Rd.test ?_) | (with_reducible refine Rd.testB ?_) | (with_reducible refine Rd.notT ?_) | (with_reducible refine Rd.isB ?_) | (with_reducible refine Rd.lst ?_) | (with_reducible refine Rd.tup ?_)
  | (with_reducible refine Rd.andV ?_) | (with_reducible refine Rd.orV ?_) | (with_reducible refine Rd.notV ?_) | (with_reducible refine Rd.andT ?_) | (with_reducible refine Rd.orT ?_) | (with_reducible refine Rd.chain ?_)
  | (with_reducible refine Rd.m0 ?_) | (with_reducible refine Rd.m1 ?_) | (with_reducible refine Rd.bm0 ?_) | (with_reducible refine Rd.bm ?_) | (with_reducible refine Rd.sl ?_) | (with_reducible refine Rd.part ?_) | (with_reducible refine Rd.part0 ?_) | (with_reducible refine Rd.isI ?_)
  | (with_reducible refine Rd.fmt ?_) | (with_reducible refine Rd.fmtRD ?_) | (with_reducible refine Rd.meth ?_) | (with_reducible refine makeG ?_) | (with_reducible refine Rd.prop ?_) | (with_reducible refine Rd.js ?_) | (with_reducible refine Rd.js0 ?_) | (with_reducible refine Rd.par ?_) | (with_reducible refine Rd.star ?_) | (with_reducible refine lcR1 ?_) | (with_reducible refine lcR2 ?_) | (with_reducible refine Rd.fld ?_) | (with_reducible refine Rd.sfld ?_) | (with_reducible refine Rd.expr ?_) | (with_reducible refine L2.isNR ?_) | (with_reducible refine L2.methI ?_) | (with_reducible refine Rd.forZ ?_)
  | (with_reducible refine Rd.forEA ?_) | (with_reducible refine Rd.forR1 ?_) | (with_reducible refine Rd.forR2 ?_) | (with_reducible refine Rd.forL ?_) | (with_reducible refine Rd.forT ?_)
  | (with_reducible refine Rd.call ?_) | (with_reducible refine Rd.asgG ?_) | (with_reducible refine Rd.gNm ?_) | (with_reducible refine Rd.gSb ?_) | (with_reducible refine Rd.gC ?_) | (with_reducible refine Rd.gN ?_)
  | ((with_reducible refine' Rd.var ?hv ?_); (case hv => exact rfl)) | (with_reducible refine Rd.c ?_) | (with_reducible refine Rd.i0 ?_) | (with_reducible refine Rd.neg ?_)
  | ((with_reducible refine' Rd.iC ?hc ?_); (case hc => first | (show (0 : Int) < _; decide) | exact ⟨by decide, by decide⟩ | exact ⟨by decide, by decide, by decide⟩ | exact .inl ⟨by decide, by decide⟩ | exact .inr ⟨by decide, by decide⟩ | exact .inl ⟨by omega, by omega⟩ | (show (0 : Int) < _; omega) | exact ⟨by omega, by omega⟩))
  | ((with_reducible refine' Rd.eqS ?hc ?_); (case hc => rfl)) | ((with_reducible refine' Rd.neS ?hc ?_); (case hc => rfl)))
local macro_rules | `(tactic| walk_at "rd") => `(tactic| repeat walk_at "rd1")
abbrev sWithL : Stmt := topA i_law_with
def spWithL (K : PySem.W.Frag) (n : Nat) : Sp := fun vs H Q _ => ∃ (f g : Fm) (v u : V) (k : Nat), vs = [v, .int (k : Nat), u] ∧ TpAt K H f v ∧ TpAt K H g u ∧ Okf f ∧ f.ht ≤ n ∧ k < f.q.1 ∧ f.q.1 ≤ 1000 ∧ ∀ x H', Same H H' → TpAt K H' (f.put k g) x → Q x H'
/-- where the parts stand in a model -/
def spots : Fm → List Nat
  | .pair _ _ _ => [1, 2]
  | .cho _ _ _ _ => [1, 3, 4]
  | _ => []
/-- the j-th part, behind the node's replacement -/
def newP (k : Nat) (g : Fm) (f : Fm) (j : Nat) : Option Fm := ((partsOf f)[j]?).map fun x => newF k g (fmN (((partsOf f).take j).map Fm.q)) x
/-- what is found behind i turns: xs, as ys but for the first i places -/
structure Fnd (K : PySem.W.Frag) (G : Hp) (f g : Fm) (k : Nat) (ys xs : List V) (i : Nat) : Prop where
  len : xs.length = ys.length
  old : ∀ m : Nat, m ∉ (spots f).take i → xs[m]? = ys[m]?
  new : ∀ j sp x, j < i → (spots f)[j]? = some sp → newP k g f j = some x → ∃ u, xs[sp]? = some u ∧ TpAt K G x u
theorem seqI {t u : TS} {D : Ends} {σ : L2.St} {H : Hp} (h : t { D with nx := u D } σ H) : tSeq t u D σ H := h
theorem forLI {K : PySem.W.Frag} {tl : TE} {g : TG} {tb : TS} {D : Ends} {σ : L2.St} {H : Hp} (h : tl σ H fun x H1 => ∃ a, x = .ref a ∧ (∃ xs, SqL K H1 a xs) ∧ ForG (Itl K a) g tb D σ H1) : tFor (iList K tl) g tb D σ H := h
theorem spotsT {K : PySem.W.Frag} {g : Fm} {σ : L2.St} {H : Hp} {Q : VK} {a : Addr} {r : List V} (og : Okf g) (nl : leafF g = false) (hσ : σ[0]? = some (some (.ref a))) (hs : SqT K H a (.str (nmW g) :: r)) (h : ∀ p, H p = none → Q (.ref p) (upd H p (.lst ((spots g).map natV)))) :
    tIf (tTest (tOp rEq (tOp (rIxT K) (tVar 0) (tC (.int 0))) (tC (.str "choice")))) (tLst (tCons (tC (.int 1)) (tCons (tC (.int 3)) (tCons (tC (.int 4)) tNil)))) (tLst (tCons (tC (.int 1)) (tCons (tC (.int 2)) tNil))) σ H Q := by
  have ci := cho_is og
  match σ, hσ with
  | _ :: σ, hσ =>
    cases hσ
    walk_at "rd"
    refine Rd.ixT hs at_zero ?_
    walk_at "rd"
    match g, nl with
    | .pair o l r, _ =>
      refine ifZ ci ?_
      walk_at "rd"
      refine ⟨Rd.small (by show 2 ≤ 100000; decide), fun p np => ?_⟩
      exact h p np
    | .cho t s x y, _ =>
      refine ifY ci ?_
      walk_at "rd"
      refine ⟨Rd.small (by show 3 ≤ 100000; decide), fun p np => ?_⟩
      exact h p np
structure MdAt (K : PySem.W.Frag) (H : Hp) (f : Fm) (a : Addr) (its : List V) : Prop where
  at_ : SqT K H a its
  wd : ∃ r, its = .str (nmW f) :: r
  few : its.length ≤ 5
  get : ∀ (j sp : Nat), (spots f)[j]? = some sp → ∃ (x : Fm) (u : V), (partsOf f)[j]? = some x ∧ its[sp]? = some u ∧ TpAt K H x u
  put : ∀ (G : Hp) (k : Nat) (g : Fm) (xs : List V) (b : Addr), Same H G → k ≠ 0 → k < f.q.1 → SqT K G b xs → Fnd K G f g k its xs (spots f).length → TpAt K G (f.put k g) (.ref b)
theorem TpAt.md {K : PySem.W.Frag} {H : Hp} {f : Fm} {v : V} (h : TpAt K H f v) (nl : leafF f = false) : ∃ a its, v = .ref a ∧ MdAt K H f a its := by
  match f, nl with
  | .pair o l r, _ =>
    obtain ⟨a, v1, v2, e, hs, t1, t2⟩ := h
    refine ⟨a, _, e, hs, ⟨_, rfl⟩, by show 3 ≤ 5; decide, fun j sp es => ?_, fun G k g xs b sm h0 hk hx fd => ?_⟩
    · match j with
      | 0 => cases es; exact ⟨l, v1, rfl, rfl, t1⟩
      | 1 => cases es; exact ⟨r, v2, rfl, rfl, t2⟩
      | _ + 2 => cases es
    · obtain ⟨u1, e1, w1⟩ := fd.new 0 1 (newF k g 1 l) (show 0 < 2 by decide) rfl rfl
      obtain ⟨u2, e2, w2⟩ := fd.new 1 2 (newF k g (1 + l.q.1) r) (show 1 < 2 by decide) rfl (by
        show some (newF k g (fmN [l.q]) r) = _
        rfl)
      have e0 : xs[0]? = some (.str (pairWord o)) := fd.old 0 (by show 0 ∉ [1, 2]; decide)
      have ln : xs.length = 3 := fd.len
      match xs, ln with
      | [y0, y1, y2], _ =>
        cases e0
        cases e1
        cases e2
        rw [put_pair h0 hk]
        exact ⟨b, _, _, rfl, hx, w1, w2⟩
  | .cho t s x y, _ =>
    obtain ⟨a, v1, tt, v2, v3, e, hs, t1, ts, t2, t3⟩ := h
    refine ⟨a, _, e, hs, ⟨_, rfl⟩, by show 5 ≤ 5; decide, fun j sp es => ?_, fun G k g xs b sm h0 hk hx fd => ?_⟩
    · match j with
      | 0 => cases es; exact ⟨t, v1, rfl, rfl, t1⟩
      | 1 => cases es; exact ⟨x, v2, rfl, rfl, t2⟩
      | 2 => cases es; exact ⟨y, v3, rfl, rfl, t3⟩
      | _ + 3 => cases es
    · obtain ⟨u1, e1, w1⟩ := fd.new 0 1 (newF k g 1 t) (show 0 < 3 by decide) rfl rfl
      obtain ⟨u2, e2, w2⟩ := fd.new 1 3 (newF k g (1 + t.q.1) x) (show 1 < 3 by decide) rfl (by
        show some (newF k g (fmN [t.q]) x) = _
        rfl)
      obtain ⟨u3, e3, w3⟩ := fd.new 2 4 (newF k g (1 + t.q.1 + x.q.1) y) (show 2 < 3 by decide) rfl (by
        show some (newF k g (fmN [t.q, x.q]) y) = _
        rfl)
      have e0 : xs[0]? = some (.str "choice") := fd.old 0 (by show 0 ∉ [1, 3, 4]; decide)
      have ec : xs[2]? = some (.ref tt) := fd.old 2 (by show 2 ∉ [1, 3, 4]; decide)
      have ln : xs.length = 5 := fd.len
      match xs, ln with
      | [y0, y1, y2, y3, y4], _ =>
        cases e0
        cases e1
        cases ec
        cases e2
        cases e3
        rw [put_cho h0 hk]
        exact ⟨b, _, _, _, _, rfl, hx, w1, ts.ext sm, w2, w3⟩
theorem spots_nd (f : Fm) : (spots f).Nodup := by
  match f with
  | .num _ => exact List.nodup_nil
  | .ref _ _ => exact List.nodup_nil
  | .pair _ _ _ => exact (by decide : [1, 2].Nodup)
  | .cho _ _ _ _ => exact (by decide : [1, 3, 4].Nodup)
theorem spots_take {f : Fm} {i sp : Nat} (e : (spots f)[i]? = some sp) : sp ∉ (spots f).take i := fun m => by
  obtain ⟨j, hj, ej⟩ := List.getElem_of_mem m
  rw [List.getElem_take] at ej
  rw [List.length_take] at hj
  obtain ⟨hi, ei⟩ := List.getElem?_eq_some_iff.mp e
  exact List.pairwise_iff_getElem.mp (spots_nd f) j i (by omega) hi (by omega) (ej.trans ei.symm)
theorem spots_in {f : Fm} {i sp : Nat} (e : (spots f)[i]? = some sp) : sp ∈ (spots f).take (i + 1) := by
  rw [List.take_add_one, e]
  simp
theorem Fnd.stay {K : PySem.W.Frag} {G G' : Hp} {f g x : Fm} {k i sp : Nat} {ys xs : List V} {u : V} (fd : Fnd K G f g k ys xs i) (es : (spots f)[i]? = some sp) (np : newP k g f i = some x) (eu : ys[sp]? = some u) (t : TpAt K G' x u) (keep : ∀ x u, TpAt K G x u → TpAt K G' x u) : Fnd K G' f g k ys xs (i + 1) where
  len := fd.len
  old := fun m hm => fd.old m fun z => hm (by rw [List.take_add_one]; exact List.mem_append_left _ z)
  new := fun j s' x' hj e1 e2 => by
    rcases Nat.lt_or_eq_of_le (Nat.le_of_lt_succ hj) with lt | e
    · obtain ⟨v, h1, h2⟩ := fd.new j s' x' lt e1 e2
      exact ⟨v, h1, keep _ _ h2⟩
    · subst e
      rw [es] at e1
      rw [np] at e2
      cases e1
      cases e2
      exact ⟨u, (fd.old sp (spots_take es)).trans eu, t⟩
theorem Fnd.step {K : PySem.W.Frag} {G G' : Hp} {f g x : Fm} {k i sp : Nat} {ys xs : List V} {u : V} (fd : Fnd K G f g k ys xs i) (es : (spots f)[i]? = some sp) (np : newP k g f i = some x) (lt : sp < xs.length) (t : TpAt K G' x u) (keep : ∀ x u, TpAt K G x u → TpAt K G' x u) : Fnd K G' f g k ys (xs.set sp u) (i + 1) where
  len := (List.length_set ..).trans fd.len
  old := fun m hm => by
    have ne : sp ≠ m := fun e => hm (e ▸ spots_in es)
    rw [List.getElem?_set_ne ne]
    exact fd.old m fun z => hm (by rw [List.take_add_one]; exact List.mem_append_left _ z)
  new := fun j s' x' hj e1 e2 => by
    rcases Nat.lt_or_eq_of_le (Nat.le_of_lt_succ hj) with lj | e
    · obtain ⟨v, h1, h2⟩ := fd.new j s' x' lj e1 e2
      have ne : sp ≠ s' := fun e => by
        obtain ⟨hi, ei⟩ := List.getElem?_eq_some_iff.mp es
        obtain ⟨hj2, ej⟩ := List.getElem?_eq_some_iff.mp e1
        exact List.pairwise_iff_getElem.mp (spots_nd f) j i hj2 hi lj (ej.trans (e.symm.trans ei.symm))
      exact ⟨v, by rw [List.getElem?_set_ne ne]; exact h1, keep _ _ h2⟩
    · subst e
      rw [es] at e1
      rw [np] at e2
      cases e1
      cases e2
      exact ⟨u, List.getElem?_set_self lt, t⟩
section
variable {P : Program} {w : World} {K : PySem.W.Frag} {mg : Str → Option Value} {base : Heap} {c : Cs} {f fA : Addr} {fd fdA : FuncData}
theorem scWithL : FnScope ["_law_part_here", "_law_at", "_law_other", "_law_rest", "_law_found", "_law_spot", "_law_many"] ["_law_part_here", "_law_at", "_law_other"] (defScope sWithL) := ⟨rfl, rfl, rfl, by decide +kernel, rfl, by decide +kernel, by decide +kernel⟩
theorem ok_withL (F : FnP K "_law_with" sWithL f fd) (gW : mg "_law_with" = some (.ref f)) (FA : FnP K "_law_all" sAll fA fdA) (GA : ∀ n, FnOk P w K mg base CX0 (n + 1) fA fdA ["_law_part_here"] (spAll K n)) (gA : mg "_law_all" = some (.ref fA)) (gLen : mg "len" = none) (gList : mg "list" = none) (gTup : mg "tuple" = none) :
    ∀ n, FnOk P w K mg base CX0 (n + 1) f fd ["_law_part_here", "_law_at", "_law_other"] (spWithL K n) := by
  have bF : Binds K fd ["_law_part_here", "_law_at", "_law_other"] [] := F.bindsN fun _ _ _ _ _ _ us hl => match us, hl with | [_, _, _], _ => rfl
  have bA : Binds K fdA ["_law_part_here"] [] := FA.bindsN fun _ _ _ _ _ _ us hl => match us, hl with | [_], _ => rfl
  have nd := scWithL.nd
  intro n
  induction n with
  | zero =>
    refine F.ok scWithL (fun vs H Q E h => ?_) (fun cdv A outer s H vs Q E hr h => ?_)
    · obtain ⟨g, g2, v, u, k, rfl, _⟩ := h
      rfl
    · obtain ⟨g, g2, v, u, k, rfl, _, _, _, ht, _⟩ := h
      cases g <;> simp [Fm.ht] at ht
  | succ n ih =>
    refine F.ok scWithL (fun vs H Q E h => ?_) (fun cdv A outer s H vs Q E hr h => ?_)
    · obtain ⟨g, g2, v, u, k, rfl, _⟩ := h
      rfl
    · obtain ⟨g, g2, v, u, k, rfl, tp, tu, og, ht, hk, few, q⟩ := h
      have rA : Room (n + 1) (A.deeper (envOfC "_law_with" (defScope sWithL) s.heap.objs.size f cdv)) := hr
      refine ⟨_, PSs.nox (pss_cons (ps_if (pt_cmpR op_eq (pv 1) pe_int (nomark _)) (pss_one (ps_ret (pv 2))) pss_nil)
        (pss_cons (ps_par (i := 3) (j := 4) (by rfl) nd rfl rfl (by decide) rfl rfl (pa_cons (pe_op op_sub (pv 1) pe_int) (pa_cons (pe_callTy call_list_of rfl gList (by decide +kernel) (pa_cons (pv 0) pa_nil)) pa_nil)) (by rfl))
        (pss_cons (ps_for PassesOwn.never rfl (pi_list (pe_ifExp (pt_cmpR op_eq (pe_ix ix_tup (pv 0) pe_int (fun _ _ => rfl)) pe_str (nomark _)) (pe_lst (pa_cons pe_int (pa_cons pe_int (pa_cons pe_int pa_nil)))) (pe_lst (pa_cons pe_int (pa_cons pe_int pa_nil))))) (pg_name (i := 5) nd rfl (Or.inl rfl)) (pss_cons (ps_set (i := 6) nd rfl (Or.inl rfl) (pe_callB call_len rfl gLen boot_len (pa_cons (pe_call (GA n) hr rfl gA FA.kp bA .nil pass0 (pa_cons (pe_ix ix_tup (pv 0) (pv 5) (fun _ _ => rfl)) pa_nil)) pa_nil)))
        (pss_cons (ps_if (pt_chain op_le op_lt pe_int (pv 3) (pv 6)) (pss_one (ps_asg (pe_call ih hr rfl gW F.kp bF .nil pass0 (pa_cons (pe_ix ix_tup (pv 0) (pv 5) (fun _ _ => rfl)) (pa_cons (pv 3) (pa_cons (pv 2) pa_nil)))) (pg_sub (pv 4) (pv 5) set_list))) pss_nil)
        (pss_one (ps_set (i := 3) nd rfl (Or.inl rfl) (pe_op op_sub (pv 3) (pv 6)))))))
        (pss_one (ps_ret (pe_callTy call_tupV rfl gTup (by decide +kernel) (pa_cons (pv 4) pa_nil))))))), ?_⟩
      walk_at "rd"
      refine Rd.ifB (fun z => ?_) (fun z => ?_)
      · have e := V.int.inj (of_decide_eq_true z)
        have e : k = 0 := by omega
        subst e
        walk_at "rd"
        refine q u H (Same.refl _) ?_
        rw [show g.put 0 g2 = g2 by cases g <;> rfl]
        exact tu
      · have k0 : k ≠ 0 := fun e => of_decide_eq_false z (by rw [e]; rfl)
        have nl : leafF g = false := by
          cases g with
          | num _ => exact absurd (show k < 1 from hk) (by omega)
          | ref _ _ => exact absurd (show k < 1 from hk) (by omega)
          | _ => rfl
        obtain ⟨a, its, rfl, md⟩ := tp.md nl
        obtain ⟨rr, ei⟩ := md.wd
        walk_at "rd"
        refine ⟨a, its, rfl, .inr md.at_, fun D nD => ?_⟩
        walk_at "rd"
        have sD := same_new (o := HO.lst its) nD
        have tD := upd_same (H := H) (a := D) (o := HO.lst its)
        generalize upd H D (.lst its) = H1 at sD tD ⊢
        refine ⟨_, _, rfl, ?_⟩
        dsimp only
        refine seqI (forLI ?_)
        refine spotsT (a := a) (r := rr) og nl (by rfl) (by rw [← ei]; exact md.at_.ext sD) fun p np => ?_
        have sP := same_new (o := HO.lst ((spots g).map natV)) np
        have tP := upd_same (H := H1) (a := p) (o := HO.lst ((spots g).map natV))
        generalize upd H1 p (.lst ((spots g).map natV)) = H2 at sP tP ⊢
        have neP : p ≠ D := fun e => by rw [e, tD] at np; cases np
        refine ⟨p, rfl, ⟨_, SqL.of tP⟩, ?_⟩
        refine for_it walk_list (fun i σ G => ∃ xs b5 b6, σ = [some (.ref a), some (.int (k : Nat)), some u, some (.int (((k : Nat) : Int) - ((fmN (((partsOf g).take i).map Fm.q) : Nat) : Int))), some (.ref D), b5, b6] ∧ Same H G ∧ G D = some (.lst xs) ∧ G p = some (.lst ((spots g).map natV)) ∧ Fnd K G g g2 k its xs i)
          ⟨its, _, _, rfl, sD.trans sP, sP _ _ tD, tP, rfl, fun m _ => rfl, fun j sp x hj => absurd hj (Nat.not_lt_zero _)⟩ (fun i σ G _ z => by obtain ⟨_, _, _, _, _, _, z, _⟩ := z; exact SqL.of z) (fun i x σ G G' hi hy z => ?_) (fun σ G z => ?_)
        · obtain ⟨xs, b5, b6, rfl, sG, eD, eP, fd⟩ := hy
          obtain ⟨rfl, ex⟩ := z
          rw [List.getElem?_map] at ex
          obtain ⟨sp, es, rfl⟩ := Option.map_eq_some_iff.mp ex
          obtain ⟨pf, up, ep, eu, tpp⟩ := md.get i sp es
          obtain ⟨op, hp2⟩ := parts_ok og (List.mem_of_getElem? ep)
          have tG := tpp.kp (kp_same sG)
          have aI : atI its ((sp : Nat) : Int) = some up := atI_nat eu
          have pl := parts_len ep
          have sl := subs_len pf
          have ft : fmN (((partsOf g).take (i + 1)).map Fm.q) = fmN (((partsOf g).take i).map Fm.q) + pf.q.1 := by
            have := fmN_take (ps := (partsOf g).map Fm.q) (i := i) (p := pf.q) (by rw [List.getElem?_map, ep]; rfl)
            rw [List.map_take, List.map_take]
            exact this
          have np : newP k g2 g i = some (newF k g2 (fmN (((partsOf g).take i).map Fm.q)) pf) := by
            unfold newP
            rw [ep]
            rfl
          rw [ft]
          generalize fmN (((partsOf g).take i).map Fm.q) = N at np ⊢
          walk_at "rd"
          refine Rd.ixT (md.at_.ext sG) aI ?_
          walk_at "rd"
          refine ⟨pf, up, rfl, tG, op, by omega, by omega, fun p4 us4 H4 s4 np4 e4 ts4 => ?_⟩
          walk_at "rd"
          have l4 := ts4.len
          refine ⟨_, us4.length, rfl, .inl ⟨us4, SqL.of e4, rfl⟩, ?_⟩
          walk_at "rd"
          have e5 : us4.length = pf.q.1 := by omega
          rw [e5]
          have er : ((k : Nat) : Int) - ((N : Nat) : Int) - ((pf.q.1 : Nat) : Int) = ((k : Nat) : Int) - ((N + pf.q.1 : Nat) : Int) := by omega
          have sG4 := sG.trans s4
          have hG4 := fun {x : Fm} {u : V} (h : TpAt K G' x u) => h.kp (kp_same s4)
          have lsp : sp < xs.length := by
            rw [fd.len]
            exact (List.getElem?_eq_some_iff.mp eu).1
          have ixs : ixN xs.length ((sp : Nat) : Int) = some sp := by
            unfold ixN
            rw [if_pos (by omega), if_pos (by omega)]
            rfl
          by_cases hN : N ≤ k ∧ k < N + pf.q.1
          · obtain ⟨h1, h2⟩ := hN
            refine ifY (decide_eq_true (by omega)) ?_
            walk_at "rd"
            refine ifY (decide_eq_true (by omega)) ?_
            walk_at "rd"
            refine Rd.ixT (md.at_.ext sG4) aI ?_
            walk_at "rd"
            refine ⟨pf, g2, up, u, k - N, by rw [show ((k - N : Nat) : Int) = ((k : Nat) : Int) - ((N : Nat) : Int) by omega]; rfl, tpp.kp (kp_same sG4), tu.kp (kp_same sG4), op, by omega, by omega, by omega, fun x H5 s5 tx => ?_⟩
            walk_at "rd"
            have e5 := s5 _ _ (s4 _ _ eD)
            refine Rd.setL (j := sp) e5 ixs ?_
            walk_at "rd"
            have sm : Same H (upd H5 D (.lst (xs.set sp x))) := fun b o e => by rw [upd_ne (ne_of_none e nD)]; exact s5 _ _ (sG4 b o e)
            refine ⟨xs.set sp x, some (natV sp), some (.int ((pf.q.1 : Nat) : Int)), by rw [← er]; rfl, sm, upd_same, by rw [upd_ne neP]; exact s5 _ _ (s4 _ _ eP), ?_⟩
            refine fd.step es np lsp ?_ fun x u h => ((hG4 h).kp (kp_same s5)).list e5
            unfold newF
            rw [if_pos ⟨h1, h2⟩]
            exact tx.list e5
          · have stay : Fnd K H4 g g2 k its xs (i + 1) := by
              refine fd.stay es np eu ?_ fun x u h => hG4 h
              unfold newF
              rw [if_neg hN]
              exact hG4 tG
            by_cases h1 : N ≤ k
            · refine ifY (decide_eq_true (by omega)) ?_
              walk_at "rd"
              refine ifZ (decide_eq_false (by omega)) ?_
              walk_at "rd"
              exact ⟨xs, some (natV sp), some (.int ((pf.q.1 : Nat) : Int)), by rw [← er]; rfl, sG4, s4 _ _ eD, s4 _ _ eP, stay⟩
            · refine ifZ (decide_eq_false (by omega)) ?_
              walk_at "rd"
              refine iteF ?_
              walk_at "rd"
              exact ⟨xs, some (natV sp), some (.int ((pf.q.1 : Nat) : Int)), by rw [← er]; rfl, sG4, s4 _ _ eD, s4 _ _ eP, stay⟩
        · obtain ⟨xs, b5, b6, rfl, sG, eD, eP, fd⟩ := z
          rw [List.length_map] at fd
          walk_at "rd"
          exact ⟨D, xs, rfl, .inl (SqL.of eD), fun b H' s' sq => q _ H' (sG.trans s') (md.put H' k g2 xs b (sG.trans s') k0 hk sq ⟨fd.len, fd.old, fun j sp x hj e1 e2 => let ⟨u, e3, t⟩ := fd.new j sp x hj e1 e2; ⟨u, e3, t.kp (kp_same s')⟩⟩)⟩
end
end K12

namespace K12
open PySem PySem.Spec PyProof.Rows L2
local macro_rules | `(tactic| walk_at "rd1") => `(tactic| first
  | (with_reducible refine Rd.seq ?_) | (with_reducible refine Rd.asg ?_) | (with_reducible refine Rd.ret ?_) | (with_reducible refine Rd.nxt ?_) | (with_reducible refine Rd.ifS ?_)
  | (with_reducible refine Rd.op ?_) | (with_reducible refine Rd.un ?_) | (with_reducible refine Rd.cb ?_) | (with_reducible refine Rd.cons ?_) | (with_reducible refine Rd.nil ?_) | (with_reducible refine Rd.ifx ?_)
  | (with_reducible refine Rd.test ?_) | (with_reducible refine Rd.testB ?_) | (with_reducible refine Rd.notT ?_) | (with_reducible refine Rd.isB ?_) | (with_reducible refine Rd.lst ?_) | (with_reducible refine Rd.tup ?_)
  | (with_reducible refine Rd.andV ?_) | (with_reducible refine Rd.orV ?_) | (with_reducible refine Rd.notV ?_) | (with_reducible refine Rd.andT ?_) | (with_reducible refine Rd.orT ?_) | (with_reducible refine Rd.chain ?_)
  | (with_reducible refine Rd.m0 ?_) | (with_reducible refine Rd.m1 ?_) | (with_reducible refine Rd.bm0 ?_) | (with_reducible refine Rd.bm ?_) | (with_reducible refine Rd.sl ?_) | (with_reducible refine Rd.part ?_) | (with_reducible refine Rd.part0 ?_) | (with_reducible refine Rd.isI ?_)
  | (with_reducible refine Rd.fmt ?_) | (with_reducible refine Rd.fmtRD ?_) | (with_reducible refine Rd.meth ?_) | (with_reducible refine makeG ?_) | (with_reducible refine Rd.prop ?_) | (with_reducible refine Rd.js ?_) | (with_reducible refine Rd.js0 ?_) | (with_reducible refine Rd.par ?_) | (with_reducible refine Rd.star ?_) | (with_reducible refine lcR1 ?_) | (with_reducible refine lcR2 ?_) | (with_reducible refine Rd.fld ?_) | (with_reducible refine Rd.sfld ?_) | (with_reducible refine Rd.expr ?_) | (with_reducible refine L2.isNR ?_) | (with_reducible refine L2.methI ?_) | (with_reducible refine Rd.forZ ?_)
  | (with_reducible refine Rd.forEA ?_) | (with_reducible refine Rd.forR1 ?_) | (with_reducible refine Rd.forR2 ?_) | (with_reducible refine Rd.forL ?_) | (with_reducible refine Rd.forT ?_)
  | (with_reducible refine Rd.call ?_) | (with_reducible refine Rd.asgG ?_) | (with_reducible refine Rd.gNm ?_) | (with_reducible refine Rd.gSb ?_) | (with_reducible refine Rd.gC ?_) | (with_reducible refine Rd.gN ?_)
  | ((with_reducible refine' Rd.var ?hv ?_); (case hv => exact rfl)) | (with_reducible refine Rd.c ?_) | (with_reducible refine Rd.i0 ?_) | (with_reducible refine Rd.neg ?_)
  | ((with_reducible refine' Rd.iC ?hc ?_); (case hc => first | (show (0 : Int) < _; decide) | exact ⟨by decide, by decide⟩ | exact ⟨by decide, by decide, by decide⟩ | exact .inl ⟨by decide, by decide⟩ | exact .inr ⟨by decide, by decide⟩ | exact .inl ⟨by omega, by omega⟩ | (show (0 : Int) < _; omega) | exact ⟨by omega, by omega⟩))
  | ((with_reducible refine' Rd.eqS ?hc ?_); (case hc => rfl)) | ((with_reducible refine' Rd.neS ?hc ?_); (case hc => rfl)))
local macro_rules | `(tactic| walk_at "rd") => `(tactic| repeat walk_at "rd1")
abbrev sRR : Stmt := topA i_law_read_right
def spRR (K : PySem.W.Frag) (c : Cs) (n : Nat) : Sp := fun vs H Q _ => ∃ (f : Fm) (v : V) (l : List V) (e : Addr) (us : List V), vs = [v, .ref e] ∧ FmAt K c H f v l ∧ Okf f ∧ f.ht ≤ n ∧ f.q.1 ≤ 40 ∧ H e = some (.lst us) ∧ TpsAt K H f.subs us ∧ ∀ H', Kf K c H H' → Q (.bl true) H'
theorem eqv_lst {l : List Str} (h : SeqAt.shaped (.list (l.map PyData.str)) = true) : PyData.eqv (.list (l.map PyData.str)) (.list (l.map PyData.str)) = true :=
  SeqAt.eqv_refl _ ((Bool.and_eq_true _ _).mp h).1
theorem bs_strs {H : Hp} {D : Addr} {us : List V} {o : HO} (hD : H D = some (.lst us)) (hn : ∀ a r, us ≠ .ref a :: r) {fs : List (Str × V)} {name : Str} {g p a : Addr} {q : Nat × Nat} {r : List V} (h : Bs H fs name g p q (.ref a :: r)) : Bs (upd H D o) fs name g p q (.ref a :: r) := by
  obtain ⟨z, e, w⟩ := h.sq
  refine ⟨h.nm, h.gv, h.pt, h.mn, h.dp, ⟨z, e, w.imp id fun ⟨b, e2, w⟩ => ⟨b, e2, ?_⟩⟩, h.few, h.ks⟩
  rw [upd_ne (fun eb => by
    rw [eb, hD] at w
    cases w
    exact hn _ _ rfl)]
  exact w
theorem FmAt.strs {K : PySem.W.Frag} {c : Cs} {H : Hp} {D : Addr} {us : List V} {o : HO} (hD : H D = some (.lst us)) (hn : ∀ a r, us ≠ .ref a :: r) : ∀ {f : Fm} {v : V} {l : List V}, FmAt K c H f v l → FmAt K c (upd H D o) f v l
  | .num n, v, l, h => by
    obtain ⟨rfl, hn', a, dx, fs, g, p, rfl, h1, h2, h3, h4, h5⟩ := h
    exact ⟨rfl, hn', a, dx, fs, g, p, rfl, ins_list hD h1, bs_strs hD hn h2, sqt_list hD h3, sqt_list hD h4, h5⟩
  | .ref w x, v, l, h => by
    obtain ⟨rfl, a, dx, fs, g, p, rfl, h1, h2, h3, h4, h5⟩ := h
    exact ⟨rfl, a, dx, fs, g, p, rfl, ins_list hD h1, bs_strs hD hn h2, sqt_list hD h3, sqt_list hD h4, h5⟩
  | .pair w f1 f2, v, l, h => by
    obtain ⟨v1, l1, v2, l2, rfl, t1, t2, a, dx, fs, g, p, rfl, h1, h2, h3, h4, h5⟩ := h
    exact ⟨v1, l1, v2, l2, rfl, FmAt.strs hD hn t1, FmAt.strs hD hn t2, a, dx, fs, g, p, rfl, ins_list hD h1, bs_strs hD hn h2, sqt_list hD h3, sqt_list hD h4, h5⟩
  | .cho f1 s f2 f3, v, l, h => by
    obtain ⟨v1, l1, v2, l2, v3, l3, rfl, t1, t2, t3, a, dx, fs, g, p, t, rfl, h1, h2, h3, h4, h5, h6⟩ := h
    exact ⟨v1, l1, v2, l2, v3, l3, rfl, FmAt.strs hD hn t1, FmAt.strs hD hn t2, FmAt.strs hD hn t3, a, dx, fs, g, p, t, rfl, ins_list hD h1, bs_strs hD hn h2, sqt_list hD h3, sqt_list hD h4, sqt_list hD h5, h6⟩
theorem Kf.write {K : PySem.W.Frag} {c : Cs} {H G : Hp} {D : Addr} {us : List V} {o : HO} (k : Kf K c H G) (nD : H D = none) (hD : G D = some (.lst us)) (hn : ∀ a r, us ≠ .ref a :: r) : Kf K c H (upd G D o) where
  fm := fun ok h => (k.fm ok h).strs hD hn
  oth := fun {b o'} e n => by rw [upd_ne (ne_of_none e nD)]; exact k.oth e n
  free := fun {b} e => by
    by_cases hb : b = D
    · rw [hb]; exact nD
    · rw [upd_ne hb] at e
      exact k.free e
theorem word_is {i : Nat} {g : Fm} (o : Okf g) (hi : i < 3) : decide (V.str (nmW g) = V.str (refWhere i)) = (colOf i g).isSome := by
  have h1 : ∀ i, i < 3 → decide (V.str "number" = V.str (refWhere i)) = false ∧ decide (V.str "choice" = V.str (refWhere i)) = false := by decide +kernel
  have h2 : ∀ w, w < 3 → ∀ i, i < 3 → decide (V.str (refWhere w) = V.str (refWhere i)) = decide (w = i) := by decide +kernel
  have h3 : ∀ w, w < 4 → ∀ i, i < 3 → decide (V.str (pairWord w) = V.str (refWhere i)) = false := by decide +kernel
  match g, o with
  | .num n, o => exact (h1 i hi).1
  | .ref w x, o =>
    show decide (V.str (refWhere w) = _) = (if w = i then some x else none).isSome
    rw [h2 w o.1 i hi]
    by_cases e : w = i
    · rw [if_pos e, decide_eq_true e]; rfl
    · rw [if_neg e, decide_eq_false e]; rfl
  | .pair w l r, o => exact h3 w o.1 i hi
  | .cho t s a b, o => exact (h1 i hi).2
theorem cols_step {i k : Nat} {fs : List Fm} {g : Fm} (e : fs[k]? = some g) : colsIn i (fs.take (k + 1)) = colsIn i (fs.take k) ++ (colOf i g).toList := by
  unfold colsIn
  rw [List.take_add_one, e, List.filterMap_append]
  cases h : colOf i g with
  | none => simp [h]
  | some x => simp [h]
theorem cols_len {i : Nat} (fs : List Fm) : (colsIn i fs).length ≤ fs.length := List.length_filterMap_le ..
theorem cols_sok {i : Nat} {fs : List Fm} (h : ∀ g ∈ fs, Okf g) : ∀ x ∈ colsIn i fs, PyData.strOk x = true := fun x hx => by
  obtain ⟨g, hg, e⟩ := List.mem_filterMap.mp hx
  have eg := colOf_some e
  subst eg
  exact (h _ hg).2.sok
section
variable {P : Program} {w : World} {K : PySem.W.Frag} {mg : Str → Option Value} {base : Heap} {c : Cs} {f fR : Addr} {fd fdR : FuncData}
abbrev nmsRR : List Str := ["_law_made", "_law_every", "_law_word", "_law_due", "_law_told", "_law_one"]
theorem scRR : FnScope nmsRR ["_law_made", "_law_every"] (defScope sRR) := ⟨rfl, rfl, rfl, by decide +kernel, rfl, by decide +kernel, by decide +kernel⟩
theorem ok_rr {n : Nat} (F : FnP K "_law_read_right" sRR f fd) (T : Cl K c) (mR : ∀ g, Meth K (clsOf c g) "columns_read" fR) (FR : FunD K "columns_read" "Formula.columns_read" (defArgs sCols) (defBody sCols) (defScope sCols) [] [] fR fdR) (GR : FnOk P w K mg base CX0 (n + 2) fR fdR ["self", "where"] (spCols K c n))
    (gSo : mg "sorted" = none) (gSet : mg "set" = none) (gIs : mg "isinstance" = none) (gList : mg "list" = none) : FnOk P w K mg base CX0 (n + 3) f fd ["_law_made", "_law_every"] (spRR K c n) := by
  have bR : Binds K fdR ["self", "where"] [] := FR.bindsN fun _ _ _ _ _ _ us hl => match us, hl with | [_, _], _ => rfl
  have kR : KBn K fdR ["self", "where"] 1 ["where"] (fun us ws => us ++ ws) (fun vs zs => vs ++ zs) := FR.kbN 1 ["where"] (fun us ws => us ++ ws) (fun a b => a.append b) fun _ _ _ _ _ _ us ws h1 h2 => match us, ws, h1, h2 with | [_], [_], _, _ => rfl
  have nd := scRR.nd
  refine F.ok scRR (fun vs H Q E h => ?_) (fun cdv A outer s H vs Q E hr h => ?_)
  · obtain ⟨g, v, l, e, us, rfl, _⟩ := h
    rfl
  · obtain ⟨g, v, l, e, us, rfl, hf, og, ht, few, eE, tE, q⟩ := h
    refine ⟨_, PSs.nox (pss_cons (ps_for PassesOwn.never rfl (pi_list (pe_lst (pa_cons pe_str (pa_cons pe_str (pa_cons pe_str pa_nil))))) (pg_name (i := 2) nd rfl (Or.inr rfl)) (pss_cons (ps_set (i := 3) nd rfl (Or.inl rfl) (pe_callB (cr_sortTx rfl) rfl gSo (by decide +kernel) (pa_cons (pe_callTy (cr_setTx rfl) rfl gSet (by decide +kernel) (pa_cons (pe_lc (own := [("_law_one", 5)]) (g := gName 5) (tt := tTest (tOp rEq (tOp (rIxT K) (tVar 5) (tC (.int 0))) (tVar 2))) (te := tOp (rIxT K) (tVar 5) (tC (.int 1))) rfl nd (pi_list (pv 1)) (blkOk_by (N := nmsRR) (sc := defScope sRR) (by decide +kernel)) (fun _ _ _ _ _ => by exact pg_name (i := 5) nd rfl (Or.inl rfl)) (fun _ _ _ _ _ => by exact pts_one (pt_cmpR op_eq (pe_ix ix_tup (pv 5) pe_int (fun _ _ => rfl)) (pv 2) (nomark _))) (fun _ _ _ _ _ => by exact pe_ix ix_tup (pv 5) pe_int (fun _ _ => rfl))) pa_nil)) pa_nil)))
        (pss_cons (ps_set (i := 4) nd rfl (Or.inl rfl) (pe_methI (ι := Fm) (C := clsOf c) (f := fun _ => fR) (fd := fun _ => fdR) (sp := fun _ => spCols K c n) (pv 0) (fun i => (T.at_ i).cl) mR (fun _ => GR) hr (fun _ => bR) .nil pass0 (pa_cons (pv 2) pa_nil)))
        (pss_cons (ps_if (PW.pt (pw_or (pt_not (pt_val (pe_callB call_isi rfl gIs (by decide +kernel) (pa_cons (pv 4) (pa_cons (pe_bltn rfl gList (by decide +kernel) (v := .ty "list") rfl) pa_nil))))) (pw_or1 (pt_cmpR (op_neD hr.units) (pv 4) (pv 3) (nomark _))))) (pss_one (ps_ret pe_bl)) pss_nil)
        (pss_cons (ps_expr (pe_bm PySem.F.plainAttrs_list PySem.F.slot_list_append PySem.F.type_list_append mt_append (pv 4) (pa_cons pe_str pa_nil)))
        (pss_one (ps_if (pt_cmpR (op_neD hr.units) (pe_methK0 (ι := Fm) (C := clsOf c) (f := fun _ => fR) (fd := fun _ => fdR) (sp := fun _ => spCols K c n) (pv 0) (fun i => (T.at_ i).cl) mR (fun _ => GR) hr (fun _ => kR) pass0 (pk_cons (pv 2) pk_nil)) (pv 3) (nomark _)) (pss_one (ps_ret pe_bl)) pss_nil)))))))
        (pss_one (ps_ret pe_bl))), ?_⟩
    walk_at "rd"
    refine ⟨Rd.small (by show 3 ≤ 100000; decide), fun p np => ?_⟩
    have sP := same_new (o := HO.lst [V.str "here", V.str "up", V.str "down"]) np
    have tP := upd_same (H := H) (a := p) (o := HO.lst [V.str "here", V.str "up", V.str "down"])
    generalize upd H p (.lst [V.str "here", V.str "up", V.str "down"]) = H1 at sP tP ⊢
    refine ⟨p, rfl, ⟨_, SqL.of tP⟩, ?_⟩
    have oth : ∀ {G : Hp} {b : Addr} {xs : List V}, Kf K c H1 G → H1 b = some (.lst xs) → G b = some (.lst xs) := fun k e => k.oth e fun _ _ _ z => by cases z
    have kP : Kf K c H H1 := kf_same sP
    refine for_it walk_list (fun i σ G => (∃ b2 b3 b4 b5, σ = [some v, some (.ref e), b2, b3, b4, b5]) ∧ Kf K c H1 G) ⟨⟨_, _, _, _, rfl⟩, Kf.refl⟩ (fun i σ G _ z => SqL.of (oth z.2 tP)) (fun i x σ G G' hi hy z => ?_) (fun σ G z => ?_)
    · obtain ⟨⟨b2, b3, b4, b5, rfl⟩, kG⟩ := hy
      obtain ⟨rfl, ex⟩ := z
      have hi : i < 3 := hi
      have ew : x = .str (refWhere i) := by
        match i, hi, ex with
        | 0, _, ex => cases ex; rfl
        | 1, _, ex => cases ex; rfl
        | 2, _, ex => cases ex; rfl
      subst ew
      have kG' := kP.trans kG
      have eE' := oth kG (sP _ _ eE)
      have tE' := tE.kf kG'
      have hf' := kG'.fm og hf
      have lts := tE.len
      have sl := subs_len g
      walk_at "rd"
      refine lcbL ?_
      walk_at "rd"
      refine ⟨e, rfl, ⟨_, SqL.of eE'⟩, ?_⟩
      refine lcRun walk_list (fun k acc Z => Same G' Z ∧ acc = (colsIn i (g.subs.take k)).map V.str) rfl (by omega) (fun k G x G' z => z.1) (fun k acc Z z => SqL.of (z.1 _ _ eE')) ⟨Same.refl _, rfl⟩ (fun k acc Z D o n z => ⟨fun b u e => by rw [upd_ne (ne_of_none e n)]; exact z.1 b u e, z.2⟩)
        (fun k x acc Z yes no hk y al z hy hn => ?_) fun D acc Z hD al z eD => ?_
      · obtain ⟨sZ, rfl⟩ := z
        obtain ⟨_, eu⟩ := y
        obtain ⟨g2, eg, tg⟩ := tE'.get eu
        have o2 := subs_ok og g2 (List.mem_of_getElem? eg)
        have tz := tg.kp (kp_same sZ)
        obtain ⟨a2, rr, rfl, hw⟩ := tz.wd
        walk_at "rd"
        refine Rd.ixT hw at_zero ?_
        walk_at "rd"
        cases ec : colOf i g2 with
        | none =>
          refine ifZ ((word_is o2 hi).trans (by rw [ec]; rfl)) ?_
          exact hn Z ⟨⟨sZ, by rw [cols_step eg, ec]; simp⟩, fun D n e => e⟩
        | some x =>
          refine ifY ((word_is o2 hi).trans (by rw [ec]; rfl)) ?_
          have eg2 := colOf_some ec
          subst eg2
          obtain ⟨a3, e3, hs⟩ := tz
          cases e3
          walk_at "rd"
          refine Rd.ixT hs rfl ?_
          exact hy (.str x) Z ⟨⟨sZ, by rw [cols_step eg, ec]; simp⟩, fun D n e => e⟩
      · obtain ⟨sZ, rfl⟩ := z
        rw [List.take_of_length_le (by omega)] at eD
        have cl := cols_len (i := i) g.subs
        have csk := cols_sok (i := i) (subs_ok og)
        walk_at "rd"
        refine ⟨D, colsIn i g.subs, rfl, SqL.of eD, Nat.lt_of_le_of_lt (show (colsIn i g.subs).length + 1 ≤ 41 by omega) (by decide), fun p2 np2 => ?_⟩
        walk_at "rd"
        have al := addAll_len (colsIn i g.subs) []
        simp only [List.length_nil, Nat.zero_add] at al
        refine ⟨p2, _, rfl, upd_same, by omega, fun ys p3 pm ndL hs np3 => ?_⟩
        have s23 := (same_new (o := TxO P w p2 ((colsIn i g.subs).foldl addL [])) np2).trans (same_new (o := HO.lst (ys.map V.str)) np3)
        have d3 := upd_same (H := upd Z p2 (TxO P w p2 ((colsIn i g.subs).foldl addL []))) (a := p3) (o := HO.lst (ys.map V.str))
        have srt : Srt (colsIn i g.subs) ys := ⟨hs, pm.nodup_iff.mpr ndL, fun x => pm.mem_iff.trans ((addAll_mem _ _).trans (by simp))⟩
        have fm2 := hf'.kp (kp_same (sZ.trans s23))
        obtain ⟨a, dx, fs, g1, p1, rr, rfl, el, ha, b1⟩ := id fm2.obj
        walk_at "rd"
        refine ⟨g, a, dx, fs, rfl, ha, b1.meth "columns_read", ?_⟩
        walk_at "rd"
        refine ⟨g, _, l, i, rfl, hi, fm2, og, ht, few, fun zs p4 G4 k4 n4 e4 s4 => ?_⟩
        obtain rfl : zs = ys := s4.one srt fun x => Iff.rfl
        have d4 := k4.oth d3 fun _ _ _ z => by cases z
        have sh : SeqAt.shaped (.list (zs.map PyData.str)) = true := shaped_lst fun x hx => csk x ((srt.m x).mp hx)
        have nr : ∀ a r, zs.map V.str ≠ .ref a :: r := fun a r e => by
          cases zs with
          | nil => cases e
          | cons _ _ => cases e
        have k04 : Kf K c H1 G4 := (kG.trans (kf_same (sZ.trans s23))).trans k4
        have n14 : H1 p4 = none := (kG.trans (kf_same (sZ.trans s23))).free n4
        have ne34 : p3 ≠ p4 := ne_of_none d3 n4
        walk_at "rd"
        refine Rd.isi (k := true) (seqL_ty (SqL.of e4)) (by decide +kernel) ?_
        walk_at "rd"
        refine ifZ rfl ?_
        walk_at "rd"
        refine ⟨_, _, .lst (SqL.of e4) (dpa_strs _), .lst (SqL.of d4) (dpa_strs _), sh, sh, ?_⟩
        rw [eqv_lst sh]
        refine ⟨_, rfl, ?_⟩
        refine iteF ?_
        walk_at "rd"
        refine ⟨.inl ⟨rfl, _, SqL.of e4⟩, ?_⟩
        walk_at "rd"
        refine ⟨p4, _, _, rfl, rfl, e4, ?_⟩
        have zl := congrArg List.length (rfl : zs = zs)
        have zf : zs.length ≤ 40 := by
          have := pm.length_eq
          omega
        refine ⟨Nat.lt_of_le_of_lt (show (zs.map V.str).length ≤ 40 by rw [List.length_map]; exact zf) (by decide), ?_⟩
        have k05 : Kf K c H1 (upd G4 p4 (.lst (zs.map V.str ++ [V.str "late"]))) := k04.write n14 e4 nr
        have d5 : upd G4 p4 (.lst (zs.map V.str ++ [V.str "late"])) p3 = some (.lst (zs.map V.str)) := by rw [upd_ne ne34]; exact d4
        generalize upd G4 p4 (.lst (zs.map V.str ++ [V.str "late"])) = G5 at k05 d5 ⊢
        have fm5 := k05.fm og (kP.fm og hf)
        obtain ⟨a5, dx5, fs5, g5, p5, r5, e5, _, ha5, b55⟩ := id fm5.obj
        walk_at "rd"
        refine methK ?_
        walk_at "rd"
        refine ⟨g, a5, dx5, fs5, e5, ha5, b55.meth "columns_read", ?_⟩
        walk_at "rd"
        refine ⟨rfl, rfl, g, _, l, i, rfl, hi, fm5, og, ht, few, fun ys6 p6 G6 k6 n6 e6 s6 => ?_⟩
        obtain rfl : ys6 = zs := s6.one srt fun x => Iff.rfl
        have d6 := k6.oth d5 fun _ _ _ z => by cases z
        walk_at "rd"
        refine ⟨_, _, .lst (SqL.of e6) (dpa_strs _), .lst (SqL.of d6) (dpa_strs _), sh, sh, ?_⟩
        rw [eqv_lst sh]
        refine ⟨_, rfl, ?_⟩
        refine iteF ?_
        walk_at "rd"
        exact ⟨⟨_, _, _, _, rfl⟩, k05.trans k6⟩
    · obtain ⟨⟨b2, b3, b4, b5, rfl⟩, kG⟩ := z
      walk_at "rd"
      exact q G (kP.trans kG)
end
end K12

namespace K12
open PySem PySem.Spec PyProof.Rows L2
local macro_rules | `(tactic| walk_at "rd1") => `(tactic| first
  | (with_reducible refine Rd.seq ?_) | (with_reducible refine Rd.asg ?_) | (with_reducible refine Rd.ret ?_) | (with_reducible refine Rd.nxt ?_) | (with_reducible refine Rd.ifS ?_)
  | (with_reducible refine Rd.op ?_) | (with_reducible refine Rd.un ?_) | (with_reducible refine Rd.cb ?_) | (with_reducible refine Rd.cons ?_) | (with_reducible refine Rd.nil ?_) | (with_reducible refine Rd.ifx ?_)
  | (with_reducible refine Rd.test ?_) | (with_reducible refine Rd.testB ?_) | (with_reducible refine Rd.notT ?_) | (with_reducible refine Rd.isB ?_) | (with_reducible refine Rd.lst ?_) | (with_reducible refine Rd.tup ?_)
  | (with_reducible refine Rd.andV ?_) | (with_reducible refine Rd.orV ?_) | (with_reducible refine Rd.notV ?_) | (with_reducible refine Rd.andT ?_) | (with_reducible refine Rd.orT ?_) | (with_reducible refine Rd.chain ?_)
  | (with_reducible refine Rd.m0 ?_) | (with_reducible refine Rd.m1 ?_) | (with_reducible refine Rd.bm0 ?_) | (with_reducible refine Rd.bm ?_) | (with_reducible refine Rd.sl ?_) | (with_reducible refine Rd.part ?_) | (with_reducible refine Rd.part0 ?_) | (with_reducible refine Rd.isI ?_)
  | (with_reducible refine Rd.fmt ?_) | (with_reducible refine Rd.fmtRD ?_) | (with_reducible refine Rd.meth ?_) | (with_reducible refine makeG ?_) | (with_reducible refine Rd.prop ?_) | (with_reducible refine Rd.js ?_) | (with_reducible refine Rd.js0 ?_) | (with_reducible refine Rd.par ?_) | (with_reducible refine Rd.star ?_) | (with_reducible refine lcR1 ?_) | (with_reducible refine lcR2 ?_) | (with_reducible refine Rd.fld ?_) | (with_reducible refine Rd.sfld ?_) | (with_reducible refine Rd.expr ?_) | (with_reducible refine L2.isNR ?_) | (with_reducible refine L2.methI ?_) | (with_reducible refine Rd.forZ ?_)
  | (with_reducible refine Rd.forEA ?_) | (with_reducible refine Rd.forR1 ?_) | (with_reducible refine Rd.forR2 ?_) | (with_reducible refine Rd.forL ?_) | (with_reducible refine Rd.forT ?_)
  | (with_reducible refine Rd.call ?_) | (with_reducible refine Rd.asgG ?_) | (with_reducible refine Rd.gNm ?_) | (with_reducible refine Rd.gSb ?_) | (with_reducible refine Rd.gC ?_) | (with_reducible refine Rd.gN ?_)
  | ((with_reducible refine' Rd.var ?hv ?_); (case hv => exact rfl)) | (with_reducible refine Rd.c ?_) | (with_reducible refine Rd.i0 ?_) | (with_reducible refine Rd.neg ?_)
  | ((with_reducible refine' Rd.iC ?hc ?_); (case hc => first | (show (0 : Int) < _; decide) | exact ⟨by decide, by decide⟩ | exact ⟨by decide, by decide, by decide⟩ | exact .inl ⟨by decide, by decide⟩ | exact .inr ⟨by decide, by decide⟩ | exact .inl ⟨by omega, by omega⟩ | (show (0 : Int) < _; omega) | exact ⟨by omega, by omega⟩))
  | ((with_reducible refine' Rd.eqS ?hc ?_); (case hc => rfl)) | ((with_reducible refine' Rd.neS ?hc ?_); (case hc => rfl)))
local macro_rules | `(tactic| walk_at "rd") => `(tactic| repeat walk_at "rd1")
theorem passC {P : Program} {w : World} {X : Cx} : Passes (CX P w) X E0 := fun _ _ _ _ _ _ _ ⟨_, _, _, _, _, _, _, _, _, _, _, _, h⟩ => h.elim
theorem neF {K : PySem.W.Frag} {mg : Str → Option Value} {c : Cs} {CF f : Addr} {n : Nat} {H : Hp} {Q : VK} {f1 f2 : Fm} {x y : V} {l1 l2 : List V} {g : Bool → Bool} (T : Cl K c) (B : Fb K mg c CF) (q : Eqc K c f) (h1 : FmAt K c H f1 x l1) (h2 : FmAt K c H f2 y l2) (o1 : Okf f1) (o2 : Okf f2) (ht : f1.ht ≤ n)
    (z : ∀ H', Ext H H' → Q (.bl (g (decide (f1 = f2)))) H') : rOwnI K (clsOf c) (spEqF K c CF n) E0 g x y H Q := by
  obtain ⟨a, dx, fs, g1, p, r, rfl, _, ha, _⟩ := id h1.obj
  exact ⟨f1, a, dx, fs, _, rfl, ha, fm_ty T B h2, q.nf f1 f2 o1 o2, f1, _, _, l1, rfl, h1, o1, ht, .inl ⟨f2, l2, h2, o2, fun H' e => ⟨_, rfl, z H' e⟩⟩⟩
theorem listG_ {ι : Type} {C : ι → Addr} {m : Str} {sp : ι → SpG} {dvs : List V} {E : XK} {ta : TE} {σ : L2.St} {H : Hp} {Q : VK} (h : ta σ H fun x H1 => ∃ i a dx fs, x = .ref a ∧ H1 a = some (.ins (C i) dx fs) ∧ fs.lookup m = none ∧ sp i (x :: dvs) H1 (fun out H2 => ∀ p, H2 p = none → Q (.ref p) (upd H2 p (.lst out))) E) : tListG (tMethGI C m sp dvs E ta) σ H Q := h
theorem subs_ht : ∀ {f g : Fm}, g ∈ f.subs → g.ht ≤ f.ht
  | .num n, g, m => by rw [List.mem_singleton.mp m]; exact Nat.le_refl _
  | .ref w x, g, m => by rw [List.mem_singleton.mp m]; exact Nat.le_refl _
  | .pair w l r, g, m => by
    have h : (Fm.pair w l r).ht = max l.ht r.ht + 1 := rfl
    rcases List.mem_cons.mp m with e | m
    · rw [e]; exact Nat.le_refl _
    · rcases List.mem_append.mp m with m | m
      · have := subs_ht m
        omega
      · have := subs_ht m
        omega
  | .cho t s a b, g, m => by
    have h : (Fm.cho t s a b).ht = max t.ht (max a.ht b.ht) + 1 := rfl
    rcases List.mem_cons.mp m with e | m
    · rw [e]; exact Nat.le_refl _
    · rcases List.mem_append.mp m with m | m
      · have := subs_ht m
        omega
      · rcases List.mem_append.mp m with m | m
        · have := subs_ht m
          omega
        · have := subs_ht m
          omega
theorem subs_fits : ∀ {f g : Fm}, Fits f → g ∈ f.subs → Fits g
  | .num n, g, h, m => by rw [List.mem_singleton.mp m]; exact h
  | .ref w x, g, h, m => by rw [List.mem_singleton.mp m]; exact h
  | .pair w l r, g, h, m => by
    rcases List.mem_cons.mp m with e | m
    · rw [e]; exact h
    · rcases List.mem_append.mp m with m | m
      · exact subs_fits h.pair.1 m
      · exact subs_fits h.pair.2 m
  | .cho t s a b, g, h, m => by
    rcases List.mem_cons.mp m with e | m
    · rw [e]; exact h
    · rcases List.mem_append.mp m with m | m
      · exact subs_fits h.cho.1 m
      · rcases List.mem_append.mp m with m | m
        · exact subs_fits h.cho.2.1 m
        · exact subs_fits h.cho.2.2 m
theorem neSame {p : Prop} [Decidable p] (h : p) : (!decide p) = false := by rw [decide_eq_true h]; rfl
theorem NdsAt.get {H : Hp} : ∀ {k : Nat} {us vs : List V} {i : Nat} {u : V}, NdsAt H k us vs → us[i]? = some u → ∃ v, vs[i]? = some v ∧ NodeAt H u (k + i) v
  | k, u :: us, v :: vs, 0, x, h, e => ⟨v, rfl, by cases e; exact h.1⟩
  | k, u :: us, v :: vs, i + 1, x, h, e => by
    obtain ⟨w, e1, e2⟩ := NdsAt.get (i := i) h.2 e
    exact ⟨w, e1, by rw [show k + (i + 1) = k + 1 + i by omega]; exact e2⟩
  | _, [], [], i, u, h, e => by cases i <;> cases e
  | _, [], _ :: _, _, _, h, _ => h.elim
  | _, _ :: _, [], _, _, h, _ => h.elim
theorem lstRg {ta : TE} {σ : L2.St} {H : Hp} {Q : VK} (h : ta σ H fun x H1 => ∃ n, x = .int n ∧ RgOk 0 n ∧ ∀ q, H1 q = none → Q (.ref q) (upd H1 q (.lst (rgV 0 n)))) : tLstRg (tRg1 ta) σ H Q := h
theorem rgV_nat (m : Nat) : rgV 0 ((m : Nat) : Int) = (List.range m).map natV := by
  unfold rgV
  rw [Int.sub_zero, Int.toNat_natCast]
  refine List.map_congr_left fun i _ => ?_
  show V.int (0 + (i : Nat)) = V.int (i : Nat)
  rw [Int.zero_add]
theorem neSelf (x : V) : (!decide (x = x)) = false := by rw [decide_eq_true rfl]; rfl
/-! ### rows of small numbers, told -/
structure Shw (x : PyData) : Prop where
  sw : x.showable = true
  dp : x.depth ≤ 20
  ln : x.shown.length ≤ 10000
theorem Shw.of {d : PyData} (a : d.canLay0 = true) (b : d.intsShort 13 = true) (sw : d.showable = true) (dp : d.depth ≤ 20) (wt : d.weight ≤ 600) : Shw d := ⟨sw, dp, by
  have z := PyData.shown_le 13 (by decide) _ (PyData.leavesShort_of_canLay0 13 _ a b)
  omega⟩
def natsD (ns : List Nat) : PyData := .list (ns.map fun n => .int (n : Nat))
theorem w_nat : ∀ n, n < 60 → (PyData.int (n : Nat)).weight ≤ 8 := by decide +kernel
theorem nats_can : ∀ ns : List Nat, (∀ n ∈ ns, n < 60) → PyData.canLayAll0 (ns.map fun n => PyData.int (n : Nat)) = true ∧ PyData.intsShortAll 13 (ns.map fun n => PyData.int (n : Nat)) = true ∧ PyData.showableAll (ns.map fun n => PyData.int (n : Nat)) = true ∧ PyData.depthAll (ns.map fun n => PyData.int (n : Nat)) ≤ 2 ∧ PyData.weightAll (ns.map fun n => PyData.int (n : Nat)) ≤ 10 * ns.length
  | [], _ => ⟨rfl, rfl, rfl, by simp [PyData.depthAll], by simp [PyData.weightAll]⟩
  | n :: ns, h => by
    obtain ⟨b1, b2, b3, b4, b5⟩ := nats_can ns fun y hy => h y (List.mem_cons_of_mem _ hy)
    have hn := h n List.mem_cons_self
    have wn := w_nat n hn
    rw [List.map_cons]
    refine ⟨?_, ?_, ?_, ?_, ?_⟩
    · rw [PyData.canLayAll0, b1]; rfl
    · rw [PyData.intsShortAll, b2, Bool.and_true]
      exact decide_eq_true (PyData.shown_int_le (by omega))
    · rw [PyData.showableAll, b3, Bool.and_true]
      exact decide_eq_true (Nat.lt_of_le_of_lt (Nat.log2_le_self _) (by omega))
    · rw [PyData.depthAll]
      simp only [PyData.depth]
      omega
    · rw [PyData.weightAll, List.length_cons]
      omega
theorem nats_shw {ns : List Nat} (h : ∀ n ∈ ns, n < 60) (hl : ns.length ≤ 50) : Shw (natsD ns) := by
  obtain ⟨a1, a2, a3, a4, a5⟩ := nats_can ns h
  refine .of ?_ ?_ ?_ ?_ ?_
  · unfold natsD; simp only [PyData.canLay0, a1]
  · unfold natsD; simp only [PyData.intsShort, a2]
  · unfold natsD; simp only [PyData.showable, a3]
  · unfold natsD
    simp only [PyData.depth]
    omega
  · unfold natsD
    simp only [PyData.weight]
    omega
theorem dds_nats {K : PySem.W.Frag} {H : Hp} : ∀ ns : List Nat, Dds K H (ns.map natV) (ns.map fun n => PyData.int (n : Nat))
  | [] => .nil
  | n :: ns => .cons (.int _) (dds_nats ns)
theorem repr_nats {K : PySem.W.Frag} {H : Hp} {Q : VK} {p : Addr} {ns : List Nat} (h : H p = some (.lst (ns.map natV))) (sm : ∀ n ∈ ns, n < 60) (hl : ns.length ≤ 50) (q : Q (.str (natsD ns).shown) H) : rRepr K [.ref p] H Q :=
  have sh := nats_shw sm hl
  ⟨p, natsD ns, rfl, .lst (SqL.of h) (dds_nats ns), sh.sw, sh.dp, Rd.small (Nat.le_trans sh.ln (by decide)), q⟩
theorem AllAt.kp {K : PySem.W.Frag} {c : Cs} {H H' : Hp} (k : Kp H H') : ∀ {fs : List Fm} {vs : List V}, AllAt K c H fs vs → AllAt K c H' fs vs
  | [], [], h => h
  | _ :: _, _ :: _, h => ⟨⟨h.1.choose, h.1.choose_spec.kp k⟩, AllAt.kp k h.2⟩
  | [], _ :: _, h => h.elim
  | _ :: _, [], h => h.elim
theorem AllAt.list {K : PySem.W.Frag} {c : Cs} {H : Hp} {D : Addr} {us us' : List V} (hD : H D = some (.lst us)) (hu : us = [] ∨ ∃ a r C dx fs, us = .ref a :: r ∧ H a = some (.ins C dx fs) ∧ fs.lookup ("_sequence" : Str) ≠ some (.ref D)) : ∀ {fs : List Fm} {vs : List V}, AllAt K c H fs vs → AllAt K c (upd H D (.lst us')) fs vs
  | [], [], h => h
  | _ :: _, _ :: _, h => ⟨⟨h.1.choose, h.1.choose_spec.list hD hu⟩, AllAt.list hD hu h.2⟩
  | [], _ :: _, h => h.elim
  | _ :: _, [], h => h.elim
/-- the first of a list, if there is one, keeps no nodes yet -/
def HdNon (X : Hp) (acc : List V) : Prop := acc = [] ∨ ∃ v r, acc = v :: r ∧ SqNon X v
theorem HdNon.front {X : Hp} {acc : List V} {y : V} (h : HdNon X (acc ++ [y])) : HdNon X acc := by
  cases acc with
  | nil => exact .inl rfl
  | cons v r =>
    rcases h with h | ⟨w, s, e, z⟩
    · cases h
    · injection e with e1 _
      exact .inr ⟨v, r, rfl, by rw [e1]; exact z⟩
theorem HdNon.list {X : Hp} {acc us : List V} {D : Addr} {o : HO} (h : HdNon X acc) (hD : X D = some (.lst us)) : HdNon (upd X D o) acc := h.imp id fun ⟨v, r, e, x, C, dx, fs, ev, hx, ns⟩ => ⟨v, r, e, x, C, dx, fs, ev, ins_list hD hx, ns⟩
theorem HdNon.same {X X' : Hp} {acc : List V} (h : HdNon X acc) (s : Same X X') : HdNon X' acc := h.imp id fun ⟨v, r, e, x, C, dx, fs, ev, hx, ns⟩ => ⟨v, r, e, x, C, dx, fs, ev, s _ _ hx, ns⟩
theorem HdNon.snoc {X : Hp} {acc : List V} {y : V} (h : HdNon X acc) (sq : SqNon X y) : HdNon X (acc ++ [y]) := by
  rcases h with h | ⟨v, r, e, z⟩
  · rw [h]; exact .inr ⟨y, [], rfl, sq⟩
  · rw [e]; exact .inr ⟨v, r ++ [y], rfl, z⟩
theorem HdNon.nod {X : Hp} {acc : List V} (h : HdNon X acc) (D : Addr) : acc = [] ∨ ∃ a r C dx fs, acc = .ref a :: r ∧ X a = some (.ins C dx fs) ∧ fs.lookup ("_sequence" : Str) ≠ some (.ref D) := by
  rcases h with h | ⟨v, r, e, x, C, dx, fs, ev, hx, ns⟩
  · exact .inl h
  · exact .inr ⟨x, r, C, dx, fs, by rw [e, ev], hx, by rw [ns]; exact fun z => by cases z⟩
abbrev sIs : Stmt := topA i_law_is
def spIs (K : PySem.W.Frag) (c : Cs) (n : Nat) : Sp := fun vs H Q _ => ∃ (f : Fm) (v u : V) (l : List V), vs = [v, u] ∧ FmAt K c H f v l ∧ TpAt K H f u ∧ Okf f ∧ f.ht ≤ n ∧ Fits f ∧ ∀ H', Kf K c H H' → Q (.bl true) H'
abbrev tRowOk (K : PySem.W.Frag) (CF : Addr) (i : Nat) : TE := tAndV (tCB (rIsi K) (tCons (tVar i) (tCons (tC (.ty "tuple")) tNil))) (tAndV (tOp rEq (tCB (fun xs H Q => ∃ x n, xs = [x] ∧ LenV K x H n ∧ Q (.int n) H) (tCons (tVar i) tNil)) (tC (.int 2))) (tCB (rIsi K) (tCons (tOp (rIxT K) (tVar i) (tC (.int 1))) (tCons (tC (.ref CF)) tNil))))
section
variable {P : Program} {w : World} {K : PySem.W.Frag} {mg : Str → Option Value} {base : Heap} {c : Cs} {CF f fA fD fF fR fN fL fq : Addr} {fd fdA fdD fdF fdR fdN fdL fdq : FuncData}
abbrev nmsIs : List Str := ["_law_made", "_law_part_here", "_law_every", "_law_told", "_law_row", "_law_one"]
theorem scIs : FnScope nmsIs ["_law_made", "_law_part_here"] (defScope sIs) := ⟨rfl, rfl, rfl, by decide +kernel, rfl, by decide +kernel, by decide +kernel⟩
theorem ok_is {n : Nat} (F : FnP K "_law_is" sIs f fd) (T : Cl K c) (B : Fb K mg c CF) (qE : Eqc K c fq) (GE : FnG P w K mg base CX0 (n * 3 + 3) fq fdq ["self", "other"] (spEqF K c CF n)) (bE : Binds K fdq ["self", "other"] [])
    (hne : ∀ g, PySem.W.findIn K (.ref (clsOf c g)) "__ne__" = some (some (.builtin "object.__ne__")))
    (FA : FnP K "_law_all" sAll fA fdA) (GA : FnOk P w K mg base CX0 (n + 1) fA fdA ["_law_part_here"] (spAll K n)) (gA : mg "_law_all" = some (.ref fA))
    (FD : FnP K "_law_deep" sDeep fD fdD) (GD : FnOk P w K mg base CX0 (n + 1) fD fdD ["_law_part_here"] (spDeep K n)) (gD : mg "_law_deep" = some (.ref fD))
    (FF : FnP K "_law_formula" sLF fF fdF) (GF : FnOk P w K mg base CX0 (n + 5) fF fdF ["_law_part_here"] (spLF K c n)) (gF : mg "_law_formula" = some (.ref fF))
    (FR : FnP K "_law_read_right" sRR fR fdR) (GR : FnOk P w K mg base CX0 (n + 3) fR fdR ["_law_made", "_law_every"] (spRR K c n)) (gR : mg "_law_read_right" = some (.ref fR))
    (GN : GFn P w K mg base (n + 2) fN fdN ["self"] (spNodes K c n)) (bN : Binds K fdN ["self"] []) (mN : ∀ g, Meth K (clsOf c g) "nodes" fN)
    (GL : FnOk P w K mg base CX0 1 fL fdL ["self"] (spLenF K c)) (bL : Binds K fdL ["self"] []) (mL : ∀ g, OwnM K (clsOf c g) "__len__" fL)
    (gIs : mg "isinstance" = none) (gList : mg "list" = none) (gTup : mg "tuple" = none) (gRepr : mg "repr" = none) (gAll : mg "all" = none) (gLen : mg "len" = none) (gRange : mg "range" = none) (sm : smOk K = true) : FnG P w K mg base CX0 (n * 3 + 9) f fd ["_law_made", "_law_part_here"] (spIs K c n) := by
  have bA : Binds K fdA ["_law_part_here"] [] := FA.bindsN fun _ _ _ _ _ _ us hl => match us, hl with | [_], _ => rfl
  have bD : Binds K fdD ["_law_part_here"] [] := FD.bindsN fun _ _ _ _ _ _ us hl => match us, hl with | [_], _ => rfl
  have bF : Binds K fdF ["_law_part_here"] [] := FF.bindsN fun _ _ _ _ _ _ us hl => match us, hl with | [_], _ => rfl
  have bR : Binds K fdR ["_law_made", "_law_every"] [] := FR.bindsN fun _ _ _ _ _ _ us hl => match us, hl with | [_, _], _ => rfl
  have nd := scIs.nd
  refine F.okG scIs (fun vs H Q E h => ?_) (fun cdv A outer s H vs Q E hgu hr h => ?_)
  · obtain ⟨g, v, u, l, rfl, _⟩ := h
    rfl
  · obtain ⟨g, v, u, l, rfl, hf, tp, og, ht, fit, q⟩ := h
    have rA := hr.mono (show n + 1 ≤ n * 3 + 8 by omega)
    have rN := hr.mono (show n + 2 ≤ n * 3 + 8 by omega)
    have rG := hr.mono (show n + 2 + 3 ≤ n * 3 + 8 by omega)
    have rF := hr.mono (show n + 5 ≤ n * 3 + 8 by omega)
    have rR := hr.mono (show n + 3 ≤ n * 3 + 8 by omega)
    have rE := hr.mono (show n * 3 + 3 + 1 ≤ n * 3 + 8 by omega)
    have r2 := hr.mono (show 2 ≤ n * 3 + 8 by omega)
    refine ⟨_, PSs.nox (pss_cons (ps_par (i := 2) (j := 3) (by rfl) nd rfl rfl (by decide) rfl rfl (pa_cons (pe_call GA rA rfl gA FA.kp bA .nil pass0 (pa_cons (pv 1) pa_nil)) (pa_cons (pe_listG (pgen_methI0 (ι := Fm) (C := clsOf c) (f := fun _ => fN) (fd := fun _ => fdN) (sp := fun _ => spNodes K c n) (E := E0) (pv 0) (fun i => (T.at_ i).cl) mN (fun _ => GN) rN (fun _ => bN) .nil) passC (fun _ _ _ h => h.elim) rG rfl gList boot_list) pa_nil)) (by rfl))
        (pss_cons (ps_if (PW.pt (pw_or (pt_cmpR op_ne (pe_callB (call_reprD hgu hr.units sm) rfl gRepr (by decide +kernel) (pa_cons (pe_lst (pa_cons (pe_callB (call_lenI (C := clsOf c) GL mL bL pass0 r2) rfl gLen boot_len (pa_cons (pv 0) pa_nil)) (pa_cons (pe_fld (pv 0) rfl) pa_nil))) pa_nil)) (pe_callB (call_reprD hgu hr.units sm) rfl gRepr (by decide +kernel) (pa_cons (pe_lst (pa_cons (pe_callB call_len rfl gLen boot_len (pa_cons (pv 2) pa_nil)) (pa_cons (pe_call GD rA rfl gD FD.kp bD .nil pass0 (pa_cons (pv 1) pa_nil)) pa_nil))) pa_nil)) (nomark _)) (pw_or1 (pt_cmpR (op_neIs (C := clsOf c) GE qE.eq hne B.hmo bE pass0 hgu rE) (pv 0) (pe_call GF rF rfl gF FF.kp bF .nil pass0 (pa_cons (pv 1) pa_nil)) (nomark _))))) (pss_one (ps_ret pe_bl)) pss_nil)
        (pss_cons (ps_if (pt_not (pt_val (pe_callB (cr_all rfl) rfl gAll (by decide +kernel) (pa_cons (pe_lc (own := [("_law_row", 4)]) (g := gName 4) (tt := tYes) (te := tRowOk K CF 4) rfl nd (pi_list (pv 3)) (blkOk_by (N := nmsIs) (sc := defScope sIs) (by decide +kernel)) (fun _ _ _ _ _ => by exact pg_name (i := 4) nd rfl (Or.inl rfl)) (fun _ _ _ _ _ => by exact pts_nil) (fun _ _ _ _ _ => by exact pe_and (pe_callB call_isi rfl gIs (by decide +kernel) (pa_cons (pv 4) (pa_cons (pe_bltn rfl gTup (by decide +kernel) (v := .ty "tuple") rfl) pa_nil))) (pe_and (pe_cmpR op_eq (pe_callB call_len rfl gLen boot_len (pa_cons (pv 4) pa_nil)) pe_int (nomark _)) (pe_one (pe_callB call_isi rfl gIs (by decide +kernel) (pa_cons (pe_ix ix_tup (pv 4) pe_int (fun _ _ => rfl)) (pa_cons (pe_glob rfl B.gF (v := .ref CF) rfl) pa_nil))))))) pa_nil)))) (pss_one (ps_ret pe_bl)) pss_nil)
        (pss_cons (ps_if (pt_cmpR op_ne (pe_callB (call_reprD hgu hr.units sm) rfl gRepr (by decide +kernel) (pa_cons (pe_lc (own := [("_law_row", 4)]) (g := gName 4) (tt := tYes) (te := tOp (rIxT K) (tVar 4) (tC (.int 0))) rfl nd (pi_list (pv 3)) (blkOk_by (N := nmsIs) (sc := defScope sIs) (by decide +kernel)) (fun _ _ _ _ _ => by exact pg_name (i := 4) nd rfl (Or.inl rfl)) (fun _ _ _ _ _ => by exact pts_nil) (fun _ _ _ _ _ => by exact pe_ix ix_tup (pv 4) pe_int (fun _ _ => rfl))) pa_nil)) (pe_callB (call_reprD hgu hr.units sm) rfl gRepr (by decide +kernel) (pa_cons (pe_listRg rfl rfl gList (prg_1 rfl gRange (pe_callB call_len rfl gLen boot_len (pa_cons (pv 2) pa_nil)))) pa_nil)) (nomark _)) (pss_one (ps_ret pe_bl)) pss_nil)
        (pss_cons (ps_if (pt_cmpR (op_neL monw_fm (eqW_fm T B qE GE bE) rE hgu) (pe_lc (own := [("_law_row", 4)]) (g := gName 4) (tt := tYes) (te := tOp (rIxT K) (tVar 4) (tC (.int 1))) rfl nd (pi_list (pv 3)) (blkOk_by (N := nmsIs) (sc := defScope sIs) (by decide +kernel)) (fun _ _ _ _ _ => by exact pg_name (i := 4) nd rfl (Or.inl rfl)) (fun _ _ _ _ _ => by exact pts_nil) (fun _ _ _ _ _ => by exact pe_ix ix_tup (pv 4) pe_int (fun _ _ => rfl))) (pe_lc (own := [("_law_one", 5)]) (g := gName 5) (tt := tYes) (te := tCall (spLF K c n) [] E0 (tCons (tVar 5) tNil)) rfl nd (pi_list (pv 2)) (blkOk_by (N := nmsIs) (sc := defScope sIs) (by decide +kernel)) (fun _ _ _ _ _ => by exact pg_name (i := 5) nd rfl (Or.inl rfl)) (fun _ _ _ _ _ => by exact pts_nil) (fun _ _ _ _ _ => by exact pe_call GF rF rfl gF FF.kp bF .nil pass0 (pa_cons (pv 5) pa_nil))) (nomark _)) (pss_one (ps_ret pe_bl)) pss_nil)
        (pss_one (ps_ret (pe_call GR rR rfl gR FR.kp bR .nil pass0 (pa_cons (pv 0) (pa_cons (pv 2) pa_nil)))))))))), ?_⟩
    walk_at "rd"
    have few := fit.1
    refine ⟨g, u, rfl, tp, og, ht, by omega, fun pE us H1 s1 nE eE tE => ?_⟩
    walk_at "rd"
    refine listG_ ?_
    walk_at "rd"
    have hf1 := hf.kp (kp_same s1)
    obtain ⟨a, dx, fs, g1, p1, r1, rfl, el, ha, b1⟩ := id hf1.obj
    refine ⟨g, a, dx, fs, rfl, ha, b1.meth "nodes", ?_⟩
    refine ⟨g, _, l, rfl, hf1, og, ht, by omega, fun ns H2 k2 nds pT nT => ?_⟩
    have sT := same_new (o := HO.lst ns) nT
    have tT := upd_same (H := H2) (a := pT) (o := HO.lst ns)
    generalize upd H2 pT (.lst ns) = H3 at sT tT ⊢
    have k3 : Kf K c H H3 := (kf_same s1).trans (k2.trans (kf_same sT))
    have k13 : Kf K c H1 H3 := k2.trans (kf_same sT)
    have hf3 := k3.fm og hf
    have eE3 : H3 pE = some (.lst us) := k13.oth eE fun _ _ _ z => by cases z
    have tE3 := tE.kf k13
    have tp3 := tp.kf k3
    have nd3 := nds.same sT
    have ll := nodes_len hf3
    have lus := tE.len
    have sl := subs_len g
    have ln := nd3.len
    walk_at "rd"
    refine ⟨_, _, rfl, ?_⟩
    walk_at "rd"
    obtain ⟨a3, dx3, fs3, g3, p3, r3, e3, el3, ha3, b13⟩ := id hf3.obj
    cases e3
    refine ⟨g, a, dx3, fs3, rfl, ha3, g, _, l, rfl, hf3, by omega, fun H4 s4 => ⟨g.q.1, rfl, by omega, ?_⟩⟩
    walk_at "rd"
    refine ⟨a, _, dx3, fs3, _, rfl, s4 _ _ ha3, (T.at_ g).cl, (T.at_ g).no "depth", b13.dp, ?_⟩
    walk_at "rd"
    refine ⟨Rd.small (by show 2 ≤ 100000; decide), fun p5 n5 => ?_⟩
    have s5 := same_new (o := HO.lst ([V.int (g.q.1 : Nat), V.int (g.q.2 : Nat)])) n5
    have t5 := upd_same (H := H4) (a := p5) (o := HO.lst ([V.int (g.q.1 : Nat), V.int (g.q.2 : Nat)]))
    generalize upd H4 p5 (HO.lst ([V.int (g.q.1 : Nat), V.int (g.q.2 : Nat)])) = H5 at s5 t5 ⊢
    walk_at "rd"
    have q2 := fit.2
    have s35 := s4.trans s5
    have sm2 : ∀ n ∈ [g.q.1, g.q.2], n < 60 := fun n hn => by
      simp only [List.mem_cons, List.not_mem_nil, or_false] at hn
      rcases hn with rfl | rfl <;> omega
    refine repr_nats (ns := [g.q.1, g.q.2]) t5 sm2 (by show 2 ≤ 50; decide) ?_
    walk_at "rd"
    refine ⟨_, us.length, rfl, .inl ⟨us, SqL.of (s35 _ _ eE3), rfl⟩, ?_⟩
    walk_at "rd"
    refine ⟨g, u, rfl, tp3.kp (kp_same s35), og, ht, fun H6 s6 => ?_⟩
    walk_at "rd"
    refine ⟨Rd.small (by show 2 ≤ 100000; decide), fun p7 n7 => ?_⟩
    have s7 := same_new (o := HO.lst ([V.int (us.length : Nat), natV g.q.2])) n7
    have t7 := upd_same (H := H6) (a := p7) (o := HO.lst ([V.int (us.length : Nat), natV g.q.2]))
    generalize upd H6 p7 (HO.lst ([V.int (us.length : Nat), natV g.q.2])) = H7 at s7 t7 ⊢
    walk_at "rd"
    have eql : us.length = g.q.1 := by omega
    rw [eql] at t7
    refine repr_nats (ns := [g.q.1, g.q.2]) t7 sm2 (by show 2 ≤ 50; decide) ?_
    have s37 : Same H3 H7 := s35.trans (s6.trans s7)
    refine ⟨rfl, _, rfl, ?_⟩
    refine ifZ (neSelf _) ?_
    walk_at "rd"
    refine ⟨g, u, rfl, tp3.kp (kp_same s37), og, ht, fit, fun v8 H8 l8 nw => ?_⟩
    have s38 : Same H3 H8 := s37.trans nw.same
    walk_at "rd"
    refine neF T B qE (hf3.kp (kp_same s38)) nw.at_ og og ht fun H9 e9 => ?_
    have s39 : Same H3 H9 := s38.trans e9
    refine ⟨_, rfl, ?_⟩
    refine ifZ (neSame rfl) ?_
    have hf9 := hf3.kp (kp_same s39)
    have nd9 := nd3.same s39
    have tT9 := s39 _ _ tT
    have all9 := hf9.all
    walk_at "rd"
    refine lcbL ?_
    walk_at "rd"
    refine ⟨pT, rfl, ⟨_, SqL.of tT9⟩, ?_⟩
    refine lcRun walk_list (fun k acc G => Same H9 G ∧ acc = List.replicate k (V.bl true)) rfl (by omega) (fun k G x G' z => z.1) (fun k acc G z => SqL.of (z.1 _ _ tT9)) ⟨Same.refl _, rfl⟩ (fun k acc G D o n z => ⟨fun b u e => by rw [upd_ne (ne_of_none e n)]; exact z.1 b u e, z.2⟩)
      (fun k x acc G yes no hk y al z hy hn => ?_) fun D acc G hD al z eD => ?_
    · obtain ⟨sG, rfl⟩ := z
      obtain ⟨_, eu⟩ := y
      obtain ⟨vk, ev, t, rfl, hT⟩ := nd9.get eu
      obtain ⟨g2, m, e2, f2⟩ := all9.get ev
      have hT := SqT.of (K := K) (sG _ _ hT)
      refine yesT ?_
      walk_at "rd"
      refine Rd.isi (k := true) (seq_ty hT) (by decide +kernel) ?_
      refine Rd.isT rfl ?_
      walk_at "rd"
      refine ⟨_, 2, rfl, .inr ⟨_, hT, rfl⟩, ?_⟩
      walk_at "rd"
      refine ifY (decide_eq_true rfl) ?_
      walk_at "rd"
      refine Rd.ixT hT rfl ?_
      walk_at "rd"
      refine ⟨vk, .ref CF, .ref (clsOf c g2), .ref CF, true, rfl, .own CF, fm_ty T B (f2.kp (kp_same sG)), B.kit g2, ?_⟩
      exact hy (.bl true) G ⟨⟨sG, by rw [List.replicate_succ']⟩, fun D n e => e⟩
    obtain ⟨sG, rfl⟩ := z
    walk_at "rd"
    refine ⟨D, List.replicate ns.length true, rfl, SqL.of (by rw [List.map_replicate]; exact eD), ?_⟩
    walk_at "rd"
    refine ifZ (by simp) ?_
    have tTG := sG _ _ tT9
    have ndG := nd9.same sG
    have s3G : Same H3 G := s39.trans sG
    walk_at "rd"
    refine lcbL ?_
    walk_at "rd"
    refine ⟨pT, rfl, ⟨_, SqL.of tTG⟩, ?_⟩
    refine lcRun walk_list (fun k acc Z => Same G Z ∧ acc = (List.range k).map natV) rfl (by omega) (fun k G x G' z => z.1) (fun k acc G z => SqL.of (z.1 _ _ tTG)) ⟨Same.refl _, rfl⟩ (fun k acc G D o n z => ⟨fun b u e => by rw [upd_ne (ne_of_none e n)]; exact z.1 b u e, z.2⟩)
      (fun k x acc Z yes no hk y al z hy hn => ?_) fun D2 acc Z hD2 al z eD2 => ?_
    · obtain ⟨sZ, rfl⟩ := z
      obtain ⟨_, eu⟩ := y
      obtain ⟨vk, ev, t, rfl, hT⟩ := ndG.get eu
      have hT := SqT.of (K := K) (sZ _ _ hT)
      refine yesT ?_
      walk_at "rd"
      refine Rd.ixT hT rfl ?_
      exact hy (natV (0 + k)) Z ⟨⟨sZ, by rw [List.range_succ, List.map_append, Nat.zero_add]; rfl⟩, fun D n e => e⟩
    obtain ⟨sZ, rfl⟩ := z
    walk_at "rd"
    refine repr_nats (ns := List.range ns.length) eD2 (fun m hm => by have := List.mem_range.mp hm; omega) (by rw [List.length_range]; omega) ?_
    walk_at "rd"
    have s3Z : Same H3 Z := s3G.trans sZ
    refine lstRg ?_
    walk_at "rd"
    refine ⟨_, us.length, rfl, .inl ⟨us, SqL.of (s3Z _ _ eE3), rfl⟩, _, rfl, RgOk.of_le (by omega) (by omega) (by omega) (by omega), fun pr nr => ?_⟩
    have sr := same_new (o := HO.lst (rgV 0 ((us.length : Nat) : Int))) nr
    have tr := upd_same (H := Z) (a := pr) (o := HO.lst (rgV 0 ((us.length : Nat) : Int)))
    generalize upd Z pr (.lst (rgV 0 ((us.length : Nat) : Int))) = Z1 at sr tr ⊢
    rw [rgV_nat, show us.length = ns.length by omega] at tr
    walk_at "rd"
    refine repr_nats (ns := List.range ns.length) tr (fun m hm => by have := List.mem_range.mp hm; omega) (by rw [List.length_range]; omega) ?_
    refine ⟨rfl, _, rfl, ?_⟩
    refine ifZ (neSelf _) ?_
    have s3Z1 : Same H3 Z1 := s3Z.trans sr
    have hfz := hf3.kp (kp_same s3Z1)
    have ndz := nd3.same s3Z1
    have tTz := s3Z1 _ _ tT
    have eEz := s3Z1 _ _ eE3
    have tEz := tE3.kp (kp_same s3Z1)
    have allz := hfz.all
    walk_at "rd"
    refine lcbL ?_
    walk_at "rd"
    refine ⟨pT, rfl, ⟨_, SqL.of tTz⟩, ?_⟩
    refine lcRun walk_list (fun k acc Y => Same Z1 Y ∧ acc = l.take k) rfl (by omega) (fun k G x G' z => z.1) (fun k acc G z => SqL.of (z.1 _ _ tTz)) ⟨Same.refl _, rfl⟩ (fun k acc G D o n z => ⟨fun b u e => by rw [upd_ne (ne_of_none e n)]; exact z.1 b u e, z.2⟩)
      (fun k x acc Y yes no hk y al z hy hn => ?_) fun D3 acc Y hD3 al z eD3 => ?_
    · obtain ⟨sY, rfl⟩ := z
      obtain ⟨_, eu⟩ := y
      obtain ⟨vk, ev, t, rfl, hT⟩ := ndz.get eu
      have hT := SqT.of (K := K) (sY _ _ hT)
      refine yesT ?_
      walk_at "rd"
      refine Rd.ixT hT rfl ?_
      exact hy vk Y ⟨⟨sY, by rw [List.take_add_one, ev]; rfl⟩, fun D n e => e⟩
    obtain ⟨sY, rfl⟩ := z
    rw [List.take_of_length_le (by omega)] at eD3
    walk_at "rd"
    refine lcbL ?_
    walk_at "rd"
    have eEy := sY _ _ eEz
    have tEy := tEz.kp (kp_same sY)
    refine ⟨pE, rfl, ⟨_, SqL.of eEy⟩, ?_⟩
    refine lcRun2 walk_list (fun k acc X => Same Y X ∧ AllAt K c X (g.subs.take k) acc ∧ HdNon X acc) rfl (by omega) (fun k G x G' z => z.1) (fun k acc G z => SqL.of (z.1 _ _ eEy)) (fun D n => ⟨same_new n, trivial, .inl rfl⟩) (fun k acc y G D n eD z => ?_)
      (fun k x acc X yes no hk y al z hy hn => ?_) fun D4 acc X hD4 al z eD4 => ?_
    · obtain ⟨sX, aX, hX⟩ := z
      have hu := (HdNon.front hX).nod D
      exact ⟨fun b u e => by rw [upd_ne (ne_of_none e n)]; exact sX b u e, aX.list eD hu, hX.list eD⟩
    · obtain ⟨sX, aX, hX⟩ := z
      obtain ⟨_, eu⟩ := y
      obtain ⟨g2, eg, tg⟩ := tEy.get eu
      have o2 := subs_ok og g2 (List.mem_of_getElem? eg)
      refine yesT ?_
      walk_at "rd"
      refine ⟨g2, x, rfl, tg.kp (kp_same sX), o2, Nat.le_trans (subs_ht (List.mem_of_getElem? eg)) ht, subs_fits fit (List.mem_of_getElem? eg), fun v' X' l' nw => ?_⟩
      refine hy v' X' ⟨⟨sX.trans nw.same, ?_, ?_⟩, fun D n e => nw.same _ _ e⟩
      · rw [List.take_add_one, eg]
        exact (aX.kp (kp_same nw.same)).append ⟨⟨l', nw.at_⟩, trivial⟩
      · exact (hX.same nw.same).snoc nw.sq
    obtain ⟨sX, aX, _⟩ := z
    rw [List.take_of_length_le (by omega)] at aX
    walk_at "rd"
    have s3X : Same H3 X := s3Z1.trans (sY.trans sX)
    have allX := (hf3.kp (kp_same s3X)).all
    have la := aX.len
    have lb := allX.len
    refine ⟨D3, D4, l, acc, rfl, rfl, sX _ _ eD3, eD4, by omega, fun i x y e1 e2 => ?_, fun H' e' => ?_⟩
    · obtain ⟨f1, l1, h1, a1⟩ := allX.get e1
      obtain ⟨f2, l2, h2, a2⟩ := aX.get e2
      rw [h1] at h2
      cases h2
      have m := List.mem_of_getElem? h1
      exact ⟨f1, f1, l1, l2, a1, a2, subs_ok og f1 m, subs_ok og f1 m, Nat.le_trans (subs_ht m) ht, (decide_eq_true rfl).symm⟩
    refine ⟨_, rfl, ?_⟩
    refine iteF ?_
    have s3H : Same H3 H' := s3X.trans e'
    walk_at "rd"
    refine ⟨g, _, l, pE, us, rfl, hf3.kp (kp_same s3H), og, ht, few, s3H _ _ eE3, tE3.kp (kp_same s3H), fun H'' k'' => ?_⟩
    exact q H'' (k3.trans ((kf_same s3H).trans k''))
end
end K12

namespace K12
open PySem PySem.Spec PyProof.Rows L2
local macro_rules | `(tactic| walk_at "rd1") => `(tactic| first
  | (with_reducible refine Rd.seq ?_) | (with_reducible refine Rd.asg ?_) | (with_reducible refine Rd.ret ?_) | (with_reducible refine Rd.nxt ?_) | (with_reducible refine Rd.ifS ?_)
  | (with_reducible refine Rd.op ?_) | (with_reducible refine Rd.un ?_) | (with_reducible refine Rd.cb ?_) | (with_reducible refine Rd.cons ?_) | (with_reducible refine Rd.nil ?_) | (with_reducible refine Rd.ifx ?_)
  | (with_reducible refine Rd.test ?_) | (with_reducible refine Rd.testB ?_) | (with_reducible refine Rd.notT ?_) | (with_reducible refine Rd.isB ?_) | (with_reducible refine Rd.lst ?_) | (with_reducible refine Rd.tup ?_)
  | (with_reducible refine Rd.andV ?_) | (with_reducible refine Rd.orV ?_) | (with_reducible refine Rd.notV ?_) | (with_reducible refine Rd.andT ?_) | (with_reducible refine Rd.orT ?_) | (with_reducible refine Rd.chain ?_)
  | (with_reducible refine Rd.m0 ?_) | (with_reducible refine Rd.m1 ?_) | (with_reducible refine Rd.bm0 ?_) | (with_reducible refine Rd.bm ?_) | (with_reducible refine Rd.sl ?_) | (with_reducible refine Rd.part ?_) | (with_reducible refine Rd.part0 ?_) | (with_reducible refine Rd.isI ?_)
  | (with_reducible refine Rd.fmt ?_) | (with_reducible refine Rd.fmtRD ?_) | (with_reducible refine Rd.meth ?_) | (with_reducible refine makeG ?_) | (with_reducible refine Rd.prop ?_) | (with_reducible refine Rd.js ?_) | (with_reducible refine Rd.js0 ?_) | (with_reducible refine Rd.par ?_) | (with_reducible refine Rd.star ?_) | (with_reducible refine lcR1 ?_) | (with_reducible refine lcR2 ?_) | (with_reducible refine Rd.fld ?_) | (with_reducible refine Rd.sfld ?_) | (with_reducible refine Rd.expr ?_) | (with_reducible refine L2.isNR ?_) | (with_reducible refine L2.methI ?_) | (with_reducible refine Rd.forZ ?_)
  | (with_reducible refine Rd.forEA ?_) | (with_reducible refine Rd.forR1 ?_) | (with_reducible refine Rd.forR2 ?_) | (with_reducible refine Rd.forL ?_) | (with_reducible refine Rd.forT ?_)
  | (with_reducible refine Rd.call ?_) | (with_reducible refine Rd.asgG ?_) | (with_reducible refine Rd.gNm ?_) | (with_reducible refine Rd.gSb ?_) | (with_reducible refine Rd.gC ?_) | (with_reducible refine Rd.gN ?_)
  | ((with_reducible refine' Rd.var ?hv ?_); (case hv => exact rfl)) | (with_reducible refine Rd.c ?_) | (with_reducible refine Rd.i0 ?_) | (with_reducible refine Rd.neg ?_)
  | ((with_reducible refine' Rd.iC ?hc ?_); (case hc => first | (show (0 : Int) < _; decide) | exact ⟨by decide, by decide⟩ | exact ⟨by decide, by decide, by decide⟩ | exact .inl ⟨by decide, by decide⟩ | exact .inr ⟨by decide, by decide⟩ | exact .inl ⟨by omega, by omega⟩ | (show (0 : Int) < _; omega) | exact ⟨by omega, by omega⟩))
  | ((with_reducible refine' Rd.eqS ?hc ?_); (case hc => rfl)) | ((with_reducible refine' Rd.neS ?hc ?_); (case hc => rfl)))
local macro_rules | `(tactic| walk_at "rd") => `(tactic| repeat walk_at "rd1")
theorem pot_new {p q : Addr} {H : Hp} (h : PotAt H p) (n : H q = none) : q ≠ p := fun e => by
  obtain ⟨x, y, a, _⟩ := h
  rw [← e, n] at a
  cases a
theorem at_str {l : List Str} {i : Nat} (h : i < l.length) : (l.map V.str)[i]? = some (.str l[i]) := by rw [List.getElem?_map, List.getElem?_eq_getElem h]; rfl
/-! ### what a pot's draws and asked formulas leave -/
structure Kq (K : PySem.W.Frag) (c : Cs) (p : Addr) (H H' : Hp) : Prop where
  fm : ∀ {f : Fm} {v : V} {l : List V}, Okf f → FmAt K c H f v l → FmAt K c H' f v l
  oth : ∀ {b : Addr} {o : HO}, b ≠ p → H b = some o → (∀ C dx fs, o ≠ .ins C dx fs) → H' b = some o
  free : ∀ {b : Addr}, H' b = none → H b = none
  pot : PotAt H p → PotAt H' p
theorem Kq.refl {K : PySem.W.Frag} {c : Cs} {p : Addr} {H : Hp} : Kq K c p H H := ⟨fun _ h => h, fun _ h _ => h, fun h => h, fun h => h⟩
theorem Kq.trans {K : PySem.W.Frag} {c : Cs} {p : Addr} {H H1 H2 : Hp} (a : Kq K c p H H1) (b : Kq K c p H1 H2) : Kq K c p H H2 := ⟨fun o h => b.fm o (a.fm o h), fun ne h n => b.oth ne (a.oth ne h n) n, fun h => a.free (b.free h), fun h => b.pot (a.pot h)⟩
theorem Kf.kq {K : PySem.W.Frag} {c : Cs} {p : Addr} {H H' : Hp} (k : Kf K c H H') : Kq K c p H H' := ⟨fun o h => k.fm o h, fun _ h n => k.oth h n, fun h => k.free h, fun ⟨x, y, e, z⟩ => ⟨x, y, k.oth e (fun _ _ _ q => by cases q), z⟩⟩
theorem kq_same {K : PySem.W.Frag} {c : Cs} {p : Addr} {H H' : Hp} (s : Same H H') : Kq K c p H H' := (kf_same s).kq
theorem kq_pot {K : PySem.W.Frag} {c : Cs} {p : Addr} {H H' : Hp} (h : PotAt H p) (b : But p H H') (h' : PotAt H' p) : Kq K c p H H' := ⟨fun _ z => z.kp (kp_pot h b), fun ne e _ => b _ _ ne e, fun {a} e => (by
    cases ha : H a with
    | none => rfl
    | some o =>
      by_cases ap : a = p
      · obtain ⟨x, y, q, _⟩ := h'
        rw [ap, q] at e
        cases e
      · rw [b a o ap ha] at e
        cases e), fun _ => h'⟩
theorem Kq.sqt {K : PySem.W.Frag} {c : Cs} {p a : Addr} {H H' : Hp} {xs : List V} (k : Kq K c p H H') (hp : PotAt H p) (h : SqT K H a xs) : SqT K H' a xs := by
  obtain ⟨x, y, e, _⟩ := hp
  rcases h with (h | ⟨o, h⟩) | h
  · exact .inl (.inl (k.oth (fun z => by rw [z, e] at h; cases h) h fun _ _ _ z => by cases z))
  · exact .inl (.inr ⟨o, k.oth (fun z => by rw [z, e] at h; cases h) h fun _ _ _ z => by cases z⟩)
  · exact .inr h
theorem TpAt.kq {K : PySem.W.Frag} {c : Cs} {p : Addr} {H H' : Hp} (k : Kq K c p H H') (hp : PotAt H p) : ∀ {f : Fm} {v : V}, TpAt K H f v → TpAt K H' f v
  | .num n, v, ⟨a, e, h⟩ => ⟨a, e, k.sqt hp h⟩
  | .ref w x, v, ⟨a, e, h⟩ => ⟨a, e, k.sqt hp h⟩
  | .pair o f1 f2, v, ⟨a, v1, v2, e, h, h1, h2⟩ => ⟨a, v1, v2, e, k.sqt hp h, TpAt.kq k hp h1, TpAt.kq k hp h2⟩
  | .cho f1 s f2 f3, v, ⟨a, v1, t, v2, v3, e, h, h1, h2, h3, h4⟩ => ⟨a, v1, t, v2, v3, e, k.sqt hp h, TpAt.kq k hp h1, k.sqt hp h2, TpAt.kq k hp h3, TpAt.kq k hp h4⟩
theorem TpsAt.kq {K : PySem.W.Frag} {c : Cs} {p : Addr} {H H' : Hp} (k : Kq K c p H H') (hp : PotAt H p) : ∀ {fs : List Fm} {vs : List V}, TpsAt K H fs vs → TpsAt K H' fs vs
  | [], [], h => h
  | _ :: _, _ :: _, h => ⟨h.1.kq k hp, TpsAt.kq k hp h.2⟩
  | [], _ :: _, h => h.elim
  | _ :: _, [], h => h.elim
abbrev sTaken : Stmt := topA i_law_taken
/-- so many different ones of a list that has more -/
def spTaken (K : PySem.W.Frag) : Sp := fun vs H Q _ => ∃ (p l : Addr) (xs : List Str) (n : Nat), vs = [.ref p, .ref l, .int n] ∧ PotAt H p ∧ H l = some (.lst (xs.map V.str)) ∧ l ≠ p ∧ n ≤ xs.length ∧ xs.length ≤ 100 ∧
  ∀ (r : Addr) (H' : Hp) (ys : List Str), PotAt H' p → But p H H' → H r = none → H' r = some (.lst (ys.map V.str)) → ys.length = n → (∀ y ∈ ys, y ∈ xs) → Q (.ref r) H'
theorem erase_map : ∀ (l : List Str) (j : Nat), (l.map V.str).eraseIdx j = (l.eraseIdx j).map V.str
  | [], j => by cases j <;> rfl
  | x :: l, 0 => rfl
  | x :: l, j + 1 => by
    show V.str x :: (l.map V.str).eraseIdx j = V.str x :: (l.eraseIdx j).map V.str
    rw [erase_map l j]
section
variable {P : Program} {w : World} {K : PySem.W.Frag} {mg : Str → Option Value} {base : Heap} {C f fD : Addr} {fd fdD : FuncData}
theorem scTaken : FnScope ["_law_pot_here", "_law_menu", "_law_many", "_law_left", "_law_found", "_law_turn"] ["_law_pot_here", "_law_menu", "_law_many"] (defScope sTaken) := ⟨rfl, rfl, rfl, by decide +kernel, rfl, by decide +kernel, by decide +kernel⟩
theorem ok_taken (F : FnP K "_law_taken" sTaken f fd) (FD : FnP K "_law_draw" sDraw fD fdD) (GD : FnOk P w K mg base CX0 1 fD fdD ["_law_pot_here", "_law_many"] spDraw) (gD : mg "_law_draw" = some (.ref fD)) (gLen : mg "len" = none) (gList : mg "list" = none) (gRange : mg "range" = none) :
    FnOk P w K mg base CX0 2 f fd ["_law_pot_here", "_law_menu", "_law_many"] (spTaken K) := by
  have bD : Binds K fdD ["_law_pot_here", "_law_many"] [] := FD.bindsN fun _ _ _ _ _ _ us hl => match us, hl with | [_, _], _ => rfl
  refine F.ok scTaken (fun vs H Q E h => ?_) (fun cdv A outer s H vs Q E hr h => ?_)
  · obtain ⟨p, l, xs, n, rfl, _⟩ := h
    rfl
  · obtain ⟨p, l, xs, n, rfl, hp, hl, nlp, hn, hx, q⟩ := h
    refine ⟨_, PSs.nox (pss_cons (ps_par (i := 3) (j := 4) (by rfl) scTaken.nd rfl rfl (by decide) rfl rfl (pa_cons (pe_callTy call_list_of rfl gList (by decide +kernel) (pa_cons (pv 1) pa_nil)) (pa_cons (pe_lst pa_nil) pa_nil)) (by rfl))
      (pss_cons (ps_for PassesOwn.never rfl (pi_range1 rfl gRange (pa_cons (pv 2) pa_nil)) (pg_name (i := 5) scTaken.nd rfl (Or.inl rfl))
        (pss_one (ps_expr (pe_bm PySem.F.plainAttrs_list PySem.F.slot_list_append PySem.F.type_list_append mt_append (pv 4)
          (pa_cons (pe_bm PySem.F.plainAttrs_list PySem.F.slot_list_pop PySem.F.type_list_pop mt_popAt (pv 3) (pa_cons (pe_call GD hr rfl gD FD.kp bD .nil pass0 (pa_cons (pv 0) (pa_cons (pe_callB call_len rfl gLen boot_len (pa_cons (pv 3) pa_nil)) pa_nil))) pa_nil)) pa_nil)))))
      (pss_one (ps_ret (pv 4))))), ?_⟩
    walk_at "rd"
    refine ⟨l, _, rfl, .inl (SqL.of hl), fun l1 n1 => ?_⟩
    have s1 := same_new (o := HO.lst (xs.map V.str)) n1
    have o1 := upd_same (H := H) (a := l1) (o := HO.lst (xs.map V.str))
    generalize upd H l1 (HO.lst (xs.map V.str)) = H1 at s1 o1 ⊢
    walk_at "rd"
    refine ⟨Rd.small (by show 0 ≤ 100000; decide), fun l2 n2 => ?_⟩
    have s2 := same_new (o := HO.lst []) n2
    have o2 := upd_same (H := H1) (a := l2) (o := HO.lst [])
    generalize upd H1 l2 (HO.lst []) = H2 at s2 o2 ⊢
    refine ⟨_, _, rfl, ?_⟩
    walk_at "rd"
    refine ⟨(n : Int), rfl, by omega, by omega, ?_⟩
    have p2 := pot_same hp (s1.trans s2)
    have d1 : l1 ≠ p := pot_new hp n1
    have d2 : l2 ≠ p := pot_new (pot_same hp s1) n2
    have d12 : l1 ≠ l2 := ne_of_none o1 n2
    have nl2 : H l2 = none := s1.free n2
    refine for_it walk_range (fun i σ H' => (∃ t, σ = [some (.ref p), some (.ref l), some (.int n), some (.ref l1), some (.ref l2), t]) ∧ PotAt H' p ∧ But p H H' ∧ ∃ left found : List Str, H' l1 = some (.lst (left.map V.str)) ∧ H' l2 = some (.lst (found.map V.str)) ∧ left.length = xs.length - i ∧ found.length = i ∧ (∀ y ∈ left, y ∈ xs) ∧ ∀ y ∈ found, y ∈ xs)
      ⟨⟨_, rfl⟩, p2, butS' (s1.trans s2), xs, [], s2 _ _ o1, o2, rfl, rfl, fun _ h => h, fun _ h => absurd h List.not_mem_nil⟩ (fun _ _ _ _ _ => trivial) (fun i v σ H3 H4 hi hp' hy => ?_) (fun σ H' hp' => ?_)
    · obtain ⟨⟨t, rfl⟩, pt, bt, left, found, a1, a2, z1, z2, m1, m2⟩ := hp'
      obtain ⟨rfl, rfl⟩ := hy
      rw [Int.toNat_natCast] at hi
      walk_at "rd"
      refine ⟨.inl ⟨rfl, _, SqL.of a2⟩, ?_⟩
      walk_at "rd"
      refine ⟨.inl ⟨rfl, _, SqL.of a1⟩, ?_⟩
      walk_at "rd"
      refine ⟨_, _, rfl, .inl ⟨_, SqL.of a1, rfl⟩, ?_⟩
      walk_at "rd"
      have lp : 0 < left.length := by omega
      refine ⟨p, _, rfl, pt, by rw [List.length_map]; omega, Int.lt_trans (show ((left.map V.str).length : Int) < 1000000 by rw [List.length_map]; omega) (by decide +kernel), fun d H5 d0 dl p5 b5 => ?_⟩
      obtain ⟨j, rfl⟩ := Int.eq_ofNat_of_zero_le d0
      rw [List.length_map] at dl
      have hj : j < left.length := by omega
      walk_at "rd"
      have ix : ixN (left.map V.str).length (j : Int) = some j := by
        unfold ixN
        rw [if_pos (by omega), if_pos (by rw [List.length_map]; omega), Int.toNat_natCast]
      refine ⟨l1, _, (j : Int), j, _, rfl, rfl, b5 l1 _ d1 a1, by omega, by omega, (ixN_seq ix).1, at_str hj, ?_⟩
      walk_at "rd"
      have f2 : upd H5 l1 (.lst ((left.map V.str).eraseIdx j)) l2 = some (.lst (found.map V.str)) := (upd_ne d12.symm).trans (b5 l2 _ d2 a2)
      refine ⟨l2, _, _, rfl, rfl, f2, Nat.lt_of_lt_of_le (show (found.map V.str).length < 100000 by rw [List.length_map]; omega) (by decide), ?_⟩
      walk_at "rd"
      have p6 : PotAt (upd (upd H5 l1 (.lst ((left.map V.str).eraseIdx j))) l2 (.lst (found.map V.str ++ [V.str left[j]]))) p := by
        obtain ⟨x, y, e, r⟩ := p5
        exact ⟨x, y, by rw [upd_ne d2.symm, upd_ne d1.symm]; exact e, r⟩
      refine ⟨⟨_, rfl⟩, p6, fun b o hb e => ?_, left.eraseIdx j, found ++ [left[j]], ?_, ?_, ?_, ?_, fun y hy => m1 y (List.mem_of_mem_eraseIdx hy), fun y hy => ?_⟩
      · rw [upd_ne (ne_of_none e nl2), upd_ne (ne_of_none e n1)]
        exact b5 b o hb (bt b o hb e)
      · rw [upd_ne d12, upd_same, erase_map]
      · rw [upd_same, List.map_append]
        rfl
      · rw [List.length_eraseIdx_of_lt hj]
        omega
      · rw [List.length_append, z2]
        rfl
      · rcases List.mem_append.mp hy with h | h
        · exact m2 y h
        · rw [List.mem_singleton.mp h]
          exact m1 _ (List.getElem_mem hj)
    · obtain ⟨⟨t, rfl⟩, pt, bt, left, found, a1, a2, z1, z2, m1, m2⟩ := hp'
      rw [Int.toNat_natCast] at z2
      walk_at "rd"
      exact q l2 H' found pt bt nl2 a2 z2 m2
end
end K12

namespace K12
open PySem PySem.Spec PyProof.Rows L2
local macro_rules | `(tactic| walk_at "rd1") => `(tactic| first
  | (with_reducible refine Rd.seq ?_) | (with_reducible refine Rd.asg ?_) | (with_reducible refine Rd.ret ?_) | (with_reducible refine Rd.nxt ?_) | (with_reducible refine Rd.ifS ?_)
  | (with_reducible refine Rd.op ?_) | (with_reducible refine Rd.un ?_) | (with_reducible refine Rd.cb ?_) | (with_reducible refine Rd.cons ?_) | (with_reducible refine Rd.nil ?_) | (with_reducible refine Rd.ifx ?_)
  | (with_reducible refine Rd.test ?_) | (with_reducible refine Rd.testB ?_) | (with_reducible refine Rd.notT ?_) | (with_reducible refine Rd.isB ?_) | (with_reducible refine Rd.lst ?_) | (with_reducible refine Rd.tup ?_)
  | (with_reducible refine Rd.andV ?_) | (with_reducible refine Rd.orV ?_) | (with_reducible refine Rd.notV ?_) | (with_reducible refine Rd.andT ?_) | (with_reducible refine Rd.orT ?_) | (with_reducible refine Rd.chain ?_)
  | (with_reducible refine Rd.m0 ?_) | (with_reducible refine Rd.m1 ?_) | (with_reducible refine Rd.bm0 ?_) | (with_reducible refine Rd.bm ?_) | (with_reducible refine Rd.sl ?_) | (with_reducible refine Rd.part ?_) | (with_reducible refine Rd.part0 ?_) | (with_reducible refine Rd.isI ?_)
  | (with_reducible refine Rd.fmt ?_) | (with_reducible refine Rd.fmtRD ?_) | (with_reducible refine Rd.meth ?_) | (with_reducible refine makeG ?_) | (with_reducible refine Rd.prop ?_) | (with_reducible refine Rd.js ?_) | (with_reducible refine Rd.js0 ?_) | (with_reducible refine Rd.par ?_) | (with_reducible refine Rd.star ?_) | (with_reducible refine lcR1 ?_) | (with_reducible refine lcR2 ?_) | (with_reducible refine Rd.fld ?_) | (with_reducible refine Rd.sfld ?_) | (with_reducible refine Rd.expr ?_) | (with_reducible refine L2.isNR ?_) | (with_reducible refine L2.methI ?_) | (with_reducible refine Rd.forZ ?_)
  | (with_reducible refine Rd.forEA ?_) | (with_reducible refine Rd.forR1 ?_) | (with_reducible refine Rd.forR2 ?_) | (with_reducible refine Rd.forL ?_) | (with_reducible refine Rd.forT ?_)
  | (with_reducible refine Rd.call ?_) | (with_reducible refine Rd.asgG ?_) | (with_reducible refine Rd.gNm ?_) | (with_reducible refine Rd.gSb ?_) | (with_reducible refine Rd.gC ?_) | (with_reducible refine Rd.gN ?_)
  | ((with_reducible refine' Rd.var ?hv ?_); (case hv => exact rfl)) | (with_reducible refine Rd.c ?_) | (with_reducible refine Rd.i0 ?_) | (with_reducible refine Rd.neg ?_)
  | ((with_reducible refine' Rd.iC ?hc ?_); (case hc => first | (show (0 : Int) < _; decide) | exact ⟨by decide, by decide⟩ | exact ⟨by decide, by decide, by decide⟩ | exact .inl ⟨by decide, by decide⟩ | exact .inr ⟨by decide, by decide⟩ | exact .inl ⟨by omega, by omega⟩ | (show (0 : Int) < _; omega) | exact ⟨by omega, by omega⟩))
  | ((with_reducible refine' Rd.eqS ?hc ?_); (case hc => rfl)) | ((with_reducible refine' Rd.neS ?hc ?_); (case hc => rfl)))
local macro_rules | `(tactic| walk_at "rd") => `(tactic| repeat walk_at "rd1")
def numOf : Fm → Option Nat
  | .num n => some n
  | _ => none
def readOf : Fm → Option Str
  | .ref _ x => some x
  | _ => none
def chosOf : Fm → List Nat
  | .cho _ s _ _ => s
  | _ => []
def numsIn (fs : List Fm) : List Nat := fs.filterMap numOf
def readIn (fs : List Fm) : List Str := fs.filterMap readOf
def chosIn (fs : List Fm) : List Nat := (fs.map chosOf).flatten
theorem numOf_some {g : Fm} {n : Nat} (h : numOf g = some n) : g = .num n := by
  cases g <;> cases h
  rfl
theorem num_is {g : Fm} (o : Okf g) : decide (V.str (nmW g) = V.str "number") = (numOf g).isSome := by
  have h0 : decide (V.str "number" = V.str "number") = true ∧ decide (V.str "choice" = V.str "number") = false := by decide +kernel
  have h1 : ∀ w, w < 3 → decide (V.str (refWhere w) = V.str "number") = false := by decide +kernel
  have h2 : ∀ w, w < 4 → decide (V.str (pairWord w) = V.str "number") = false := by decide +kernel
  match g, o with
  | .num n, o => exact h0.1
  | .ref w x, o => exact h1 w o.1
  | .pair w l r, o => exact h2 w o.1
  | .cho t s a b, o => exact h0.2
theorem ref_in {g : Fm} (o : Okf g) : inV (.str (nmW g)) [V.str "here", V.str "up", V.str "down"] = (readOf g).isSome := by
  have h0 : inV (.str "number") [V.str "here", V.str "up", V.str "down"] = false ∧ inV (.str "choice") [V.str "here", V.str "up", V.str "down"] = false := by decide +kernel
  have h1 : ∀ w, w < 3 → inV (.str (refWhere w)) [V.str "here", V.str "up", V.str "down"] = true := by decide +kernel
  have h2 : ∀ w, w < 4 → inV (.str (pairWord w)) [V.str "here", V.str "up", V.str "down"] = false := by decide +kernel
  match g, o with
  | .num n, o => exact h0.1
  | .ref w x, o => exact h1 w o.1
  | .pair w l r, o => exact h2 w o.1
  | .cho t s a b, o => exact h0.2
theorem fm_step {α : Type} (φ : Fm → Option α) {fs : List Fm} {k : Nat} {g : Fm} (e : fs[k]? = some g) : (fs.take (k + 1)).filterMap φ = (fs.take k).filterMap φ ++ (φ g).toList := by
  rw [List.take_add_one, e, List.filterMap_append]
  cases h : φ g with
  | none => simp [h]
  | some x => simp [h]
theorem chos_step {fs : List Fm} {k : Nat} {g : Fm} (e : fs[k]? = some g) : chosIn (fs.take (k + 1)) = chosIn (fs.take k) ++ chosOf g := by
  unfold chosIn
  rw [List.take_add_one, e, Option.toList_some, List.map_append, List.flatten_append]
  simp
/-- it fits exactly if its numbers and its columns do -/
theorem fits_all (M : Nat) (L : List Str) : ∀ fs : List Fm, fs.all (fits1 M L) = (((numsIn fs ++ chosIn fs).all fun n => decide (n < M)) && ((readIn fs).all fun x => decide (x ∈ L)))
  | [] => rfl
  | g :: fs => by
    have ih := fits_all M L fs
    have hn : numsIn (g :: fs) = (numOf g).toList ++ numsIn fs := by
      unfold numsIn
      rw [List.filterMap_cons]
      cases numOf g <;> rfl
    have hr : readIn (g :: fs) = (readOf g).toList ++ readIn fs := by
      unfold readIn
      rw [List.filterMap_cons]
      cases readOf g <;> rfl
    have hc : chosIn (g :: fs) = chosOf g ++ chosIn fs := rfl
    rw [List.all_cons, ih, hn, hr, hc]
    simp only [List.all_append]
    cases g <;> simp [fits1, numOf, readOf, chosOf, Bool.and_assoc, Bool.and_comm, Bool.and_left_comm]
theorem int_lt (n M : Nat) : decide (((n : Nat) : Int) < ((M : Nat) : Int)) = decide (n < M) := by
  by_cases h : n < M
  · rw [decide_eq_true h, decide_eq_true (by omega)]
  · rw [decide_eq_false h, decide_eq_false (by omega)]
theorem range_all {α : Type} (l : List α) (d : α) (φ : α → Bool) : ((List.range l.length).map fun k => φ (l.getD k d)).all id = l.all φ := by
  have e : (List.range l.length).map (fun k => φ (l.getD k d)) = l.map φ := by
    apply List.ext_getElem
    · simp
    · intro i h1 h2
      simp at h1
      simp [List.getD_eq_getElem?_getD, h1]
  rw [e, List.all_map]
  rfl
/-- all([.. for x in xs]), a test that only makes objects -/
theorem allC {K : PySem.W.Frag} {σ : L2.St} {H : Hp} {Q : VK} {D : Addr} {jl vi : Nat} {xs : List V} {te : TE} (hit : σ[jl]? = some (some (.ref D))) (hD : H D = some (.lst xs)) (ln : xs.length ≤ 100000) (b : Nat → Bool)
    (ht : ∀ k x (G : Hp) (Q' : VK), Same H G → xs[k]? = some x → (∀ G', Same G G' → Q' (.bl (b k)) G') → te ((wipe σ [vi]).set vi (some x)) G Q')
    (h : ∀ G, Same H G → Q (.bl (((List.range xs.length).map b).all id)) G) : tCB (rAll K) (tCons (tLc (iList K (tVar jl)) (gName vi) tYes te [vi]) tNil) σ H Q := by
  unfold tCB tCons
  refine lcbL ?_
  refine ⟨.ref D, hit, D, rfl, ⟨_, SqL.of hD⟩, ?_⟩
  refine lcRun walk_list (fun k acc G => Same H G ∧ acc = (List.range k).map fun i => V.bl (b i)) rfl ln (fun k G x G' z => z.1) (fun k acc G z => SqL.of (z.1 _ _ hD)) ⟨Same.refl _, rfl⟩ (fun k acc G D o n z => ⟨fun b u e => by rw [upd_ne (ne_of_none e n)]; exact z.1 b u e, z.2⟩)
    (fun k x acc G yes no hk y al z hy hn => ?_) fun D2 acc G hD2 al z eD => ?_
  · obtain ⟨sG, rfl⟩ := z
    obtain ⟨_, eu⟩ := y
    refine yesT ?_
    refine ht k x G yes sG eu fun G' s' => hy _ G' ⟨⟨sG.trans s', ?_⟩, fun D n e => s' _ _ e⟩
    rw [List.range_succ, List.map_append]
    rfl
  · obtain ⟨sG, rfl⟩ := z
    exact ⟨D2, (List.range xs.length).map b, rfl, SqL.of (by rw [List.map_map]; exact eD), h G sG⟩
/-- all numbers are less, all columns are listed -/
theorem dueT {K : PySem.W.Frag} {σ : L2.St} {H : Hp} {Q : VK} {Dn Dr Dl : Addr} {M : Nat} {ns : List Nat} {rs L : List Str} (w11 : 11 < σ.length) (s4 : σ[4]? = some (some (.int (M : Nat)))) (s5 : σ[5]? = some (some (.ref Dl))) (s6 : σ[6]? = some (some (.ref Dn))) (s7 : σ[7]? = some (some (.ref Dr)))
    (hn : H Dn = some (.lst (ns.map natV))) (hr : H Dr = some (.lst (rs.map V.str))) (hl : H Dl = some (.lst (L.map V.str))) (ln : ns.length ≤ 1000) (lr : rs.length ≤ 1000) (h : ∀ G, Same H G → Q (.bl ((ns.all fun n => decide (n < M)) && (rs.all fun x => decide (x ∈ L)))) G) :
    tAndV (tCB (rAll K) (tCons (tLc (iList K (tVar 6)) (gName 11) tYes (tOp (rI0 fun i j => V.bl (decide (i < j))) (tVar 11) (tVar 4)) [11]) tNil)) (tCB (rAll K) (tCons (tLc (iList K (tVar 7)) (gName 10) tYes (tOp (rIn K false) (tVar 10) (tVar 5)) [10]) tNil)) σ H Q := by
  have g11 : ∀ {j : Nat} {x : V} {y : V}, j < 10 → σ[j]? = some (some y) → ((wipe σ [11]).set 11 (some x))[j]? = some (some y) := fun {j x y} hj e => by
    show ((σ.set 11 none).set 11 (some x))[j]? = _
    rw [List.getElem?_set_ne (by omega), List.getElem?_set_ne (by omega)]
    exact e
  have g10 : ∀ {j : Nat} {x : V} {y : V}, j < 10 → σ[j]? = some (some y) → ((wipe σ [10]).set 10 (some x))[j]? = some (some y) := fun {j x y} hj e => by
    show ((σ.set 10 none).set 10 (some x))[j]? = _
    rw [List.getElem?_set_ne (by omega), List.getElem?_set_ne (by omega)]
    exact e
  have v11 : ∀ {x : V}, ((wipe σ [11]).set 11 (some x))[11]? = some (some x) := fun {x} => by
    show ((σ.set 11 none).set 11 (some x))[11]? = _
    exact List.getElem?_set_self (by rw [List.length_set]; exact w11)
  have v10 : ∀ {x : V}, ((wipe σ [10]).set 10 (some x))[10]? = some (some x) := fun {x} => by
    show ((σ.set 10 none).set 10 (some x))[10]? = _
    exact List.getElem?_set_self (by rw [List.length_set]; omega)
  refine allC (D := Dn) s6 hn (by rw [List.length_map]; omega) (fun k => decide (ns.getD k 0 < M)) (fun k x G Q' sG ex k' => ?_) fun G sG => ?_
  · rw [List.getElem?_map] at ex
    obtain ⟨n, en, rfl⟩ := Option.map_eq_some_iff.mp ex
    refine ⟨natV n, v11, ?_⟩
    refine ⟨.int (M : Nat), g11 (by decide) s4, ?_⟩
    refine ⟨_, _, rfl, rfl, ?_⟩
    show Q' (.bl (decide (((n : Nat) : Int) < ((M : Nat) : Int)))) G
    rw [int_lt, ← show ns.getD k 0 = n by rw [List.getD_eq_getElem?_getD, en]; rfl]
    exact k' G (Same.refl _)
  · have e1 : ((List.range (ns.map natV).length).map fun k => decide (ns.getD k 0 < M)).all id = ns.all fun n => decide (n < M) := by
      rw [List.length_map, range_all ns 0 fun n => decide (n < M)]
    rw [e1]
    refine ⟨_, rfl, ?_⟩
    cases eb : ns.all fun n => decide (n < M) with
    | false =>
      refine iteF ?_
      rw [← Bool.false_and (rs.all fun x => decide (x ∈ L)), ← eb]
      exact h G sG
    | true =>
      refine iteT ?_
      refine allC (D := Dr) s7 (sG _ _ hr) (by rw [List.length_map]; omega) (fun k => decide (rs.getD k Str.empty ∈ L)) (fun k x G' Q' sG' ex k' => ?_) fun G' sG' => ?_
      · rw [List.getElem?_map] at ex
        obtain ⟨r, er, rfl⟩ := Option.map_eq_some_iff.mp ex
        refine ⟨.str r, v10, ?_⟩
        refine ⟨.ref Dl, g10 (by decide) s5, ?_⟩
        refine ⟨Dl, _, rfl, .inl (SqL.of (sG' _ _ (sG _ _ hl))), rfl, flat_strs L, ?_⟩
        rw [if_neg Bool.false_ne_true, inV_str, ← show rs.getD k Str.empty = r by rw [List.getD_eq_getElem?_getD, er]; rfl]
        exact k' G' (Same.refl _)
      · have e2 : ((List.range (rs.map V.str).length).map fun k => decide (rs.getD k Str.empty ∈ L)).all id = rs.all fun x => decide (x ∈ L) := by
          rw [List.length_map, range_all rs Str.empty fun x => decide (x ∈ L)]
        rw [e2, ← Bool.true_and (rs.all fun x => decide (x ∈ L)), ← eb]
        exact h G' (sG.trans sG')
theorem asgI {te : TE} {g : TG} {D : Ends} {σ : L2.St} {H : Hp} (h : te σ H fun x H1 => g x σ H1 D.nx) : tAsg te g D σ H := h
/-- the list as it is, or with one name more -/
theorem listedT {σ : L2.St} {H : Hp} {Q : VK} {p D : Addr} {L : List Str} {i j : Nat} (hp : PotAt H p) (si : σ[i]? = some (some (.ref p))) (sj : σ[j]? = some (some (.ref D))) (hD : H D = some (.lst (L.map V.str))) (lL : L.length ≤ 100) (nD : D ≠ p)
    (h : ∀ (G : Hp) (D' : Addr) (L' : List Str), PotAt G p → But p H G → G D' = some (.lst (L'.map V.str)) → D' ≠ p → (L' = L ∨ L' = L ++ [("late" : Str)]) → Q (.ref D') G) :
    tIf (tTest (tOp rEq (tCall spDraw [] E0 (tCons (tVar i) (tCons (tC (.int 2)) tNil))) (tC (.int 0)))) (tVar j) (tOp rCat (tVar j) (tLst (tCons (tC (.str "late")) tNil))) σ H Q := by
  refine ⟨.ref p, si, ?_⟩
  refine ⟨p, 2, rfl, hp, by decide, by decide +kernel, fun d G d0 dl p1 b1 => ?_⟩
  have hD1 := b1 _ _ nD hD
  refine ⟨rfl, _, rfl, ?_⟩
  refine Rd.ifB (fun _ => ?_) (fun _ => ?_)
  · exact ⟨.ref D, sj, h G D L p1 b1 hD1 nD (.inl rfl)⟩
  · refine ⟨.ref D, sj, ?_⟩
    refine ⟨Rd.small (by show 1 ≤ 100000; decide), fun q nq => ?_⟩
    have nDq : D ≠ q := ne_of_none hD1 nq
    refine ⟨D, q, _, _, rfl, rfl, by rw [upd_ne nDq]; exact hD1, upd_same, Rd.small (by rw [List.length_map]; show L.length + 1 ≤ 100000; omega), fun r nr => ?_⟩
    have sq := same_new (o := HO.lst [V.str "late"]) nq
    have s2 := sq.trans (same_new (o := HO.lst (L.map V.str ++ [V.str "late"])) nr)
    exact h _ r (L ++ [("late" : Str)]) (pot_same p1 s2) (b1.trans (butS' s2)) (by rw [List.map_append]; exact upd_same) (fun e => by
      have z := sq.free nr
      obtain ⟨x, y, w, _⟩ := p1
      rw [e, w] at z
      cases z) (.inr rfl)
theorem bl2_shw (b : Bool) : Shw (.list [.bool b, .bool b]) := by
  cases b <;> exact .of (by decide +kernel) (by decide +kernel) (by decide +kernel) (by decide +kernel) (by decide +kernel)
theorem repr_bl {K : PySem.W.Frag} {H : Hp} {Q : VK} {p : Addr} {b : Bool} (h : H p = some (.lst [.bl b, .bl b])) (q : Q (.str (PyData.list [.bool b, .bool b]).shown) H) : rRepr K [.ref p] H Q :=
  have sh := bl2_shw b
  ⟨p, .list [.bool b, .bool b], rfl, .lst (SqL.of h) (.cons (.bl _) (.cons (.bl _) .nil)), sh.sw, sh.dp, Rd.small (Nat.le_trans sh.ln (by decide)), q⟩
abbrev sFR : Stmt := topA i_law_fits_right
def spFR (K : PySem.W.Frag) (c : Cs) (n : Nat) : Sp := fun vs H Q _ => ∃ (p e m : Addr) (f : Fm) (v : V) (l us : List V) (L : List Str), vs = [.ref p, v, .ref e, .ref m] ∧ PotAt H p ∧ FmAt K c H f v l ∧ Okf f ∧ f.ht ≤ n ∧ f.q.1 ≤ 40 ∧ H e = some (.lst us) ∧ e ≠ p ∧ TpsAt K H f.subs us ∧
  H m = some (.lst (L.map V.str)) ∧ m ≠ p ∧ L.length ≤ 8 ∧ (∀ x ∈ L, PyData.strOk x = true) ∧ ∀ H', Kq K c p H H' → Q (.bl true) H'
section
variable {P : Program} {w : World} {K : PySem.W.Frag} {mg : Str → Option Value} {base : Heap} {c : Cs} {f fD fI : Addr} {fd fdD fdI : FuncData}
abbrev nmsFR : List Str := ["_law_pot_here", "_law_made", "_law_every", "_law_names", "_law_base", "_law_listed", "_law_numbers", "_law_read", "_law_due", "_law_told", "_law_name", "_law_one"]
abbrev psFR : List Str := ["_law_pot_here", "_law_made", "_law_every", "_law_names"]
theorem scFR : FnScope nmsFR psFR (defScope sFR) := ⟨rfl, rfl, rfl, by decide +kernel, rfl, by decide +kernel, by decide +kernel⟩
theorem ok_fr {n : Nat} (F : FnP K "_law_fits_right" sFR f fd) (T : Cl K c) (FD : FnP K "_law_draw" sDraw fD fdD) (GD : FnOk P w K mg base CX0 1 fD fdD ["_law_pot_here", "_law_many"] spDraw) (gD : mg "_law_draw" = some (.ref fD))
    (mI : ∀ g, Meth K (clsOf c g) "fits" fI) (FI : FunD K "fits" "Formula.fits" (defArgs sFits) (defBody sFits) (defScope sFits) [] [] fI fdI) (GI : FnOk P w K mg base CX0 (n + 2) fI fdI ["self", "modulus", "columns"] (spFits K c n))
    (gAll : mg "all" = none) (gList : mg "list" = none) (gTup : mg "tuple" = none) (gRepr : mg "repr" = none) (sm : smOk K = true) : FnG P w K mg base CX0 (n + 3) f fd psFR (spFR K c n) := by
  have bD : Binds K fdD ["_law_pot_here", "_law_many"] [] := FD.bindsN fun _ _ _ _ _ _ us hl => match us, hl with | [_, _], _ => rfl
  have bI : Binds K fdI ["self", "modulus", "columns"] [] := FI.bindsN fun _ _ _ _ _ _ us hl => match us, hl with | [_, _, _], _ => rfl
  have kI : KBn K fdI ["self", "modulus", "columns"] (1 + 1) ["columns"] (fun us ws => us ++ ws) (fun vs zs => vs ++ zs) := FI.kbN 2 ["columns"] (fun us ws => us ++ ws) (fun a b => a.append b) fun _ _ _ _ _ _ us ws h1 h2 => match us, ws, h1, h2 with | [_, _], [_], _, _ => rfl
  have nd := scFR.nd
  refine F.okG scFR (fun vs H Q E h => ?_) (fun cdv A outer s H vs Q E hgu hr h => ?_)
  · obtain ⟨p, e, m, g, v, l, us, L, rfl, _⟩ := h
    rfl
  · obtain ⟨p, e, m, g, v, l, us, L, rfl, hp, hf, og, ht, few, eE, ep, tE, eM, mp, lL, sL, q⟩ := h
    have r1 := hr.mono (show 1 ≤ n + 2 by omega)
    refine ⟨_, PSs.nox (pss_cons (ps_asg (pe_tup (pa_cons (pe_op op_add pe_int (pe_call GD r1 rfl gD FD.kp bD .nil pass0 (pa_cons (pv 0) (pa_cons pe_int pa_nil)))) (pa_cons (pe_lc (own := [("_law_name", 10)]) (g := gName 10) (tt := tTest (tOp (rI0 fun i j => .bl (decide (j < i))) (tCall spDraw [] E0 (tCons (tVar 0) (tCons (tC (.int 4)) tNil))) (tC (.int 0)))) (te := tVar 10) rfl nd (pi_list (pv 3)) (blkOk_by (N := nmsFR) (sc := defScope sFR) (by decide +kernel)) (fun _ _ _ _ _ => by exact pg_name (i := 10) nd rfl (Or.inl rfl)) (fun _ _ _ _ _ => by exact pts_one (pt_cmpR op_gt (pe_call GD r1 rfl gD FD.kp bD .nil pass0 (pa_cons (pv 0) (pa_cons pe_int pa_nil))) pe_int (nomark _))) (fun _ _ _ _ _ => by exact pv 10)) pa_nil))) (pg_tup rfl (pgs_cons (pg_name (i := 4) nd rfl (Or.inr rfl)) (pgs_cons (pg_name (i := 5) nd rfl (Or.inr rfl)) pgs_nil))))
        (pss_cons (ps_set (i := 5) nd rfl (Or.inr rfl) (pe_ifExp (pt_cmpR op_eq (pe_call GD r1 rfl gD FD.kp bD .nil pass0 (pa_cons (pv 0) (pa_cons pe_int pa_nil))) pe_int (nomark _)) (pv 5) (pe_op op_cat (pv 5) (pe_lst (pa_cons pe_str pa_nil)))))
        (pss_cons (ps_setLc (i := 6) (own := [("_law_one", 11)]) (g := gName 11) (tt := tTest (tOp rEq (tOp (rIxT K) (tVar 11) (tC (.int 0))) (tC (.str "number")))) (te := tOp (rIxT K) (tVar 11) (tC (.int 1))) rfl nd rfl rfl (sw_true rfl rfl rfl (by decide +kernel)) (pi_list (pv 2)) (blkOk_by (N := nmsFR) (sc := defScope sFR) (by decide +kernel)) (fun _ _ _ _ _ => by exact pg_name (i := 11) nd rfl (Or.inl rfl)) (fun _ _ _ _ _ => by exact pts_one (pt_cmpR op_eq (pe_ix ix_tup (pv 11) pe_int (fun _ _ => rfl)) pe_str (nomark _))) (fun _ _ _ _ _ => by exact pe_ix ix_tup (pv 11) pe_int (fun _ _ => rfl)))
        (pss_cons (ps_for PassesOwn.never rfl (pi_list (pv 2)) (pg_name (i := 11) nd rfl (Or.inl rfl)) (pss_one (ps_set (i := 6) nd rfl (Or.inl rfl) (pe_op op_cat (pv 6) (pe_ifExp (pt_cmpR op_eq (pe_ix ix_tup (pv 11) pe_int (fun _ _ => rfl)) pe_str (nomark _)) (pe_callTy call_list_of rfl gList (by decide +kernel) (pa_cons (pe_ix ix_tup (pv 11) pe_int (fun _ _ => rfl)) pa_nil)) (pe_lst pa_nil))))))
        (pss_cons (ps_setLc (i := 7) (own := [("_law_one", 11)]) (g := gName 11) (tt := tTest (tOp (rIn K false) (tOp (rIxT K) (tVar 11) (tC (.int 0))) (tTup (tCons (tC (.str "here")) (tCons (tC (.str "up")) (tCons (tC (.str "down")) tNil)))))) (te := tOp (rIxT K) (tVar 11) (tC (.int 1))) rfl nd rfl rfl (sw_true rfl rfl rfl (by decide +kernel)) (pi_list (pv 2)) (blkOk_by (N := nmsFR) (sc := defScope sFR) (by decide +kernel)) (fun _ _ _ _ _ => by exact pg_name (i := 11) nd rfl (Or.inl rfl)) (fun _ _ _ _ _ => by exact pts_one (pt_cmpR op_in_seq (pe_ix ix_tup (pv 11) pe_int (fun _ _ => rfl)) (pe_tup (pa_cons pe_str (pa_cons pe_str (pa_cons pe_str pa_nil)))) rfl)) (fun _ _ _ _ _ => by exact pe_ix ix_tup (pv 11) pe_int (fun _ _ => rfl)))
        (pss_cons (ps_set (i := 8) nd rfl (Or.inl rfl) (pe_and (pe_callB (cr_all rfl) rfl gAll (by decide +kernel) (pa_cons (pe_lc (own := [("_law_one", 11)]) (g := gName 11) (tt := tYes) (te := tOp (rI0 fun i j => .bl (decide (i < j))) (tVar 11) (tVar 4)) rfl nd (pi_list (pv 6)) (blkOk_by (N := nmsFR) (sc := defScope sFR) (by decide +kernel)) (fun _ _ _ _ _ => by exact pg_name (i := 11) nd rfl (Or.inl rfl)) (fun _ _ _ _ _ => by exact pts_nil) (fun _ _ _ _ _ => by exact pe_cmpR op_lt (pv 11) (pv 4) (nomark _))) pa_nil)) (pe_one (pe_callB (cr_all rfl) rfl gAll (by decide +kernel) (pa_cons (pe_lc (own := [("_law_name", 10)]) (g := gName 10) (tt := tYes) (te := tOp (rIn K false) (tVar 10) (tVar 5)) rfl nd (pi_list (pv 7)) (blkOk_by (N := nmsFR) (sc := defScope sFR) (by decide +kernel)) (fun _ _ _ _ _ => by exact pg_name (i := 10) nd rfl (Or.inl rfl)) (fun _ _ _ _ _ => by exact pts_nil) (fun _ _ _ _ _ => by exact pe_cmpR op_in_seq (pv 10) (pv 5) rfl)) pa_nil)))))
        (pss_cons (ps_set (i := 9) nd rfl (Or.inl rfl) (pe_lst (pa_cons (pe_methI (ι := Fm) (C := clsOf c) (f := fun _ => fI) (fd := fun _ => fdI) (sp := fun _ => spFits K c n) (pv 1) (fun i => (T.at_ i).cl) mI (fun _ => GI) hr (fun _ => bI) .nil pass0 (pa_cons (pv 4) (pa_cons (pv 5) pa_nil))) (pa_cons (pe_methK (ι := Fm) (C := clsOf c) (f := fun _ => fI) (fd := fun _ => fdI) (sp := fun _ => spFits K c n) (pv 1) (fun i => (T.at_ i).cl) mI (fun _ => GI) hr (fun _ => kI) pass0 (pa_cons (pv 4) pa_nil) (pk_cons (pe_callTy call_tupV rfl gTup (by decide +kernel) (pa_cons (pv 5) pa_nil)) pk_nil)) pa_nil))))
        (pss_one (ps_ret (pe_cmpR op_eq (pe_callB (call_reprD hgu hr.units sm) rfl gRepr (by decide +kernel) (pa_cons (pv 9) pa_nil)) (pe_callB (call_reprD hgu hr.units sm) rfl gRepr (by decide +kernel) (pa_cons (pe_lst (pa_cons (pv 8) (pa_cons (pv 8) pa_nil))) pa_nil)) (nomark _))))))))))), ?_⟩
    walk_at "rd"
    refine ⟨p, 8, rfl, hp, by decide, by decide +kernel, fun d H1 d0 dl p1 b1 => ?_⟩
    have k01 : Kq K c p H H1 := kq_pot hp b1 p1
    have eM1 := b1 _ _ mp eM
    walk_at "rd"
    refine lcbL ?_
    walk_at "rd"
    refine ⟨m, rfl, ⟨_, SqL.of eM1⟩, ?_⟩
    have newp : ∀ {D : Addr}, H1 D = none → D ≠ p := fun n => pot_new p1 n
    refine lcRun walk_list (fun k acc G => PotAt G p ∧ But p H1 G ∧ ∃ L' : List Str, acc = L'.map V.str ∧ ∀ x ∈ L', x ∈ L) rfl (by rw [List.length_map]; omega) (fun k G x G' z => z.1) (fun k acc G z => SqL.of (z.2.1 _ _ mp eM1)) ⟨p1, But.refl, [], rfl, fun _ h => absurd h List.not_mem_nil⟩
      (fun k acc G D o n z => ⟨?_, fun b u nb e => by rw [upd_ne (ne_of_none e n)]; exact z.2.1 b u nb e, z.2.2⟩) (fun k x acc G yes no hk y al z hy hn => ?_) fun D acc G hD al z eD => ?_
    · obtain ⟨x, y, w, r⟩ := z.1
      exact ⟨x, y, by rw [upd_ne (Ne.symm (newp n))]; exact w, r⟩
    · obtain ⟨pG, bG, L', rfl, sub⟩ := z
      obtain ⟨_, eu⟩ := y
      rw [List.getElem?_map] at eu
      obtain ⟨x', ex', rfl⟩ := Option.map_eq_some_iff.mp eu
      walk_at "rd"
      refine ⟨p, 4, rfl, pG, by decide, by decide +kernel, fun d2 G2 e0 el p2 b2 => ?_⟩
      walk_at "rd"
      have kp : ∀ D, H1 D = none → G D = some (.lst (L'.map V.str)) → G2 D = some (.lst (L'.map V.str)) := fun D n e => b2 _ _ (newp n) e
      refine Rd.ifB (fun _ => ?_) (fun _ => ?_)
      · refine ⟨.str x', rfl, hy (.str x') G2 ⟨⟨p2, bG.trans b2, L' ++ [x'], by rw [List.map_append]; rfl, fun y hy => ?_⟩, kp⟩⟩
        rcases List.mem_append.mp hy with h | h
        · exact sub y h
        · rw [List.mem_singleton.mp h]
          exact List.mem_of_getElem? ex'
      · exact hn G2 ⟨⟨p2, bG.trans b2, L', rfl, sub⟩, kp⟩
    obtain ⟨pG, bG, L1, rfl, sub1⟩ := z
    rw [List.length_map, List.length_map] at al
    walk_at "rd"
    refine ⟨Rd.small (by show 2 ≤ 100000; decide), fun pt npt => ?_⟩
    have sT := same_new (o := HO.tup [V.int (2 + d), V.ref D]) npt
    have tT := upd_same (H := G) (a := pt) (o := HO.tup [V.int (2 + d), V.ref D])
    generalize upd G pt (.tup [V.int (2 + d), V.ref D]) = G1 at sT tT ⊢
    refine ⟨pt, _, rfl, SqT.of tT, rfl, ?_⟩
    dsimp only [gCons, gNil, gName]
    have eD1 := sT _ _ eD
    have pG1 := pot_same pG sT
    have nDp : D ≠ p := newp hD
    refine ⟨_, _, rfl, _, _, rfl, rfl, ?_⟩
    obtain ⟨M, hM⟩ : ∃ M : Nat, 2 + d = ((M : Nat) : Int) := ⟨(2 + d).toNat, by omega⟩
    rw [hM]
    refine seqI (asgI (listedT (p := p) (D := D) (L := L1) (i := 0) (j := 5) pG1 rfl rfl eD1 (by omega) nDp fun G2 D' Lz p2 b2 eD' nD' hL2 => ?_))
    have k12 : Kq K c p H G2 := ((k01.trans (kq_pot p1 bG pG)).trans (kq_same sT)).trans (kq_pot pG1 b2 p2)
    have e2 : G2 e = some (.lst us) := k12.oth ep eE fun _ _ _ z => by cases z
    have t2 := tE.kq k12 hp
    have f2 := k12.fm og hf
    have sL2 : ∀ x ∈ Lz, PyData.strOk x = true := fun x hx => by
      rcases hL2 with h | h
      · rw [h] at hx; exact sL x (sub1 x hx)
      · rw [h] at hx
        rcases List.mem_append.mp hx with h | h
        · exact sL x (sub1 x h)
        · rw [List.mem_singleton.mp h]; decide +kernel
    have lL2 : Lz.length ≤ 9 := by
      rcases hL2 with h | h
      · rw [h]; omega
      · rw [h, List.length_append]
        show L1.length + 1 ≤ 9
        omega
    walk_at "rd"
    refine lcbL ?_
    walk_at "rd"
    refine ⟨e, rfl, ⟨_, SqL.of e2⟩, ?_⟩
    have lus := tE.len
    have sl := subs_len g
    refine lcRun walk_list (fun k acc Z => Same G2 Z ∧ acc = (numsIn (g.subs.take k)).map natV) rfl (by omega) (fun k G x G' z => z.1) (fun k acc Z z => SqL.of (z.1 _ _ e2)) ⟨Same.refl _, rfl⟩ (fun k acc Z D o n z => ⟨fun b u e => by rw [upd_ne (ne_of_none e n)]; exact z.1 b u e, z.2⟩)
      (fun k x acc Z yes no hk y al z hy hn => ?_) fun D3 acc Z hD3 al3 z eD3 => ?_
    · obtain ⟨sZ, rfl⟩ := z
      obtain ⟨_, eu⟩ := y
      obtain ⟨g2, eg, tg⟩ := t2.get eu
      have o2 := subs_ok og g2 (List.mem_of_getElem? eg)
      have tz := tg.kp (kp_same sZ)
      obtain ⟨a2, rr, rfl, hw⟩ := tz.wd
      walk_at "rd"
      refine Rd.ixT hw at_zero ?_
      walk_at "rd"
      cases ec : numOf g2 with
      | none =>
        refine ifZ ((num_is o2).trans (by rw [ec]; rfl)) ?_
        exact hn Z ⟨⟨sZ, by unfold numsIn; rw [fm_step numOf eg, ec]; simp⟩, fun D n e => e⟩
      | some x =>
        refine ifY ((num_is o2).trans (by rw [ec]; rfl)) ?_
        have eg2 := numOf_some ec
        subst eg2
        obtain ⟨a3, e3, hs⟩ := tz
        cases e3
        walk_at "rd"
        refine Rd.ixT hs rfl ?_
        exact hy (natV x) Z ⟨⟨sZ, by unfold numsIn; rw [fm_step numOf eg, ec]; simp⟩, fun D n e => e⟩
    obtain ⟨sZ, rfl⟩ := z
    rw [List.take_of_length_le (by omega)] at eD3
    have nl : (numsIn g.subs).length ≤ 40 := Nat.le_trans (List.length_filterMap_le ..) (by omega)
    have eZ := sZ _ _ e2
    walk_at "rd"
    refine ⟨e, rfl, ⟨_, SqL.of eZ⟩, ?_⟩
    refine for_it walk_list (fun i σ Y => ∃ Dn b7 b8 b9 b10 b11, σ = [some (.ref p), some v, some (.ref e), some (.ref m), some (.int (M : Nat)), some (.ref D'), some (.ref Dn), b7, b8, b9, b10, b11] ∧ Same Z Y ∧ Y Dn = some (.lst ((numsIn g.subs ++ chosIn (g.subs.take i)).map natV)) ∧ (chosIn (g.subs.take i)).length ≤ 9 * i)
      ⟨D3, _, _, _, _, _, rfl, Same.refl _, by rw [eD3]; simp [chosIn], Nat.le_refl _⟩ (fun i σ Y _ z => by obtain ⟨_, _, _, _, _, _, _, z, _⟩ := z; exact SqL.of (z _ _ eZ)) (fun i x σ Y Y' hi hy z => ?_) (fun σ Y z => ?_)
    · obtain ⟨Dn, b7, b8, b9, b10, b11, rfl, sY, eN, lc⟩ := hy
      obtain ⟨rfl, eu⟩ := z
      obtain ⟨g2, eg, tg⟩ := t2.get eu
      have o2 := subs_ok og g2 (List.mem_of_getElem? eg)
      have tz := tg.kp (kp_same (sZ.trans sY))
      obtain ⟨a2, rr, rfl, hw⟩ := tz.wd
      have ci := cho_is o2
      have hi : i < us.length := hi
      walk_at "rd"
      refine Rd.ixT hw at_zero ?_
      walk_at "rd"
      cases g2 with
      | cho t' s' x' y' =>
        refine ifY ci ?_
        obtain ⟨a', v1, bt, v2, v3, e', hs, t1, ts, t3, t9⟩ := tz
        cases e'
        walk_at "rd"
        refine Rd.ixT hs rfl ?_
        walk_at "rd"
        refine ⟨bt, _, rfl, .inr ts, fun q1 nq => ?_⟩
        have sq := same_new (o := HO.lst (s'.map natV)) nq
        have fw : s'.length ≤ 9 := o2.1.few
        refine ⟨Dn, q1, _, _, rfl, rfl, sq _ _ eN, upd_same, Rd.small (by rw [List.length_map, List.length_map, List.length_append]; omega), fun r nr => ?_⟩
        refine ⟨r, _, _, _, _, _, rfl, (sY.trans sq).trans (same_new nr), ?_, ?_⟩
        · rw [upd_same, chos_step eg]
          simp [chosOf]
        · rw [chos_step eg, List.length_append]
          show _ + s'.length ≤ _
          omega
      | _ =>
        refine ifZ ci ?_
        walk_at "rd"
        refine ⟨Rd.small (by show 0 ≤ 100000; decide), fun q1 nq => ?_⟩
        have sq := same_new (o := HO.lst []) nq
        refine ⟨Dn, q1, _, _, rfl, rfl, sq _ _ eN, upd_same, Rd.small (by rw [List.length_map, List.length_append]; show _ + 0 ≤ _; omega), fun r nr => ?_⟩
        refine ⟨r, _, _, _, _, _, rfl, (sY.trans sq).trans (same_new nr), ?_, ?_⟩
        · rw [upd_same, chos_step eg]
          simp [chosOf]
        · rw [chos_step eg, List.length_append]
          show _ + 0 ≤ _
          omega
    · obtain ⟨Dn, b7, b8, b9, b10, b11, rfl, sY, eN, lc⟩ := z
      rw [List.take_of_length_le (by omega)] at eN lc
      have eY := sY _ _ eZ
      have tY := t2.kp (kp_same (sZ.trans sY))
      walk_at "rd"
      refine lcbL ?_
      walk_at "rd"
      refine ⟨e, rfl, ⟨_, SqL.of eY⟩, ?_⟩
      refine lcRun walk_list (fun k acc W => Same Y W ∧ acc = (readIn (g.subs.take k)).map V.str) rfl (by omega) (fun k G x G' z => z.1) (fun k acc Z z => SqL.of (z.1 _ _ eY)) ⟨Same.refl _, rfl⟩ (fun k acc Z D o n z => ⟨fun b u e => by rw [upd_ne (ne_of_none e n)]; exact z.1 b u e, z.2⟩)
        (fun k x acc W yes no hk y al z hy hn => ?_) fun D4 acc W hD4 al4 z eD4 => ?_
      · obtain ⟨sW, rfl⟩ := z
        obtain ⟨_, eu⟩ := y
        obtain ⟨g2, eg, tg⟩ := tY.get eu
        have o2 := subs_ok og g2 (List.mem_of_getElem? eg)
        have tz := tg.kp (kp_same sW)
        obtain ⟨a2, rr, rfl, hw⟩ := tz.wd
        walk_at "rd"
        refine Rd.ixT hw at_zero ?_
        walk_at "rd"
        refine ⟨Rd.small (by show 3 ≤ 100000; decide), fun q1 nq => ?_⟩
        have sq := same_new (o := HO.tup [V.str "here", V.str "up", V.str "down"]) nq
        have tq := upd_same (H := W) (a := q1) (o := HO.tup [V.str "here", V.str "up", V.str "down"])
        generalize upd W q1 (.tup [V.str "here", V.str "up", V.str "down"]) = W1 at sq tq ⊢
        walk_at "rd"
        refine ⟨q1, _, rfl, .inr (SqT.of tq), rfl, rfl, ?_⟩
        rw [if_neg Bool.false_ne_true]
        refine ⟨_, rfl, ?_⟩
        rw [ref_in o2]
        have kp : ∀ D, Y D = none → W D = some (.lst ((readIn (g.subs.take k)).map V.str)) → W1 D = some (.lst ((readIn (g.subs.take k)).map V.str)) := fun D n e => sq _ _ e
        cases ec : readOf g2 with
        | none => 
          refine ifZ rfl ?_
          exact hn W1 ⟨⟨sW.trans sq, by unfold readIn; rw [fm_step readOf eg, ec]; simp⟩, kp⟩
        | some y1 =>
          refine ifY rfl ?_
          cases g2 with
          | ref w' x' =>
            cases ec
            obtain ⟨a3, e3, hs⟩ := tz
            cases e3
            walk_at "rd"
            refine Rd.ixT (hs.ext sq) rfl ?_
            exact hy (.str y1) W1 ⟨⟨sW.trans sq, by unfold readIn; rw [fm_step readOf eg]; simp [readOf]⟩, kp⟩
          | _ => cases ec
      obtain ⟨sW, rfl⟩ := z
      rw [List.take_of_length_le (by omega)] at eD4
      have rl : (readIn g.subs).length ≤ 40 := Nat.le_trans (List.length_filterMap_le ..) (by omega)
      have sDl : Same G2 W := (sZ.trans sY).trans sW
      dsimp only [gName]
      refine seqI (asgI (dueT (Dn := Dn) (Dr := D4) (Dl := D') (M := M) (by show 11 < 12; decide) rfl rfl rfl rfl (sW _ _ eN) eD4 (sDl _ _ eD') (by rw [List.length_append]; omega) (by omega) fun X sX => ?_))
      rw [← fits_all]
      have sX2 : Same G2 X := sDl.trans sX
      have fX := f2.kp (kp_same sX2)
      obtain ⟨a, dx, fs, g1, p1', r1', rfl, el, ha, b1'⟩ := id fX.obj
      walk_at "rd"
      refine ⟨g, a, dx, fs, rfl, ha, b1'.meth "fits", ?_⟩
      walk_at "rd"
      have eX := sX2 _ _ eD'
      refine ⟨g, _, l, M, D', Lz, rfl, fX, og, ht, few, .inl (SqL.of eX), fun X1 k1 => ?_⟩
      walk_at "rd"
      refine methK ?_
      walk_at "rd"
      have fX1 := k1.fm og fX
      obtain ⟨a3, dx3, fs3, g3, p3, r3, e3, el3, ha3, b3⟩ := id fX1.obj
      cases e3
      refine ⟨g, a, dx3, fs3, rfl, ha3, b3.meth "fits", ?_⟩
      walk_at "rd"
      have eX1 : X1 D' = some (.lst (Lz.map V.str)) := k1.oth eX fun _ _ _ z => by cases z
      refine ⟨D', _, rfl, .inl (SqL.of eX1), fun pq X2 s2 hq => ?_⟩
      walk_at "rd"
      refine ⟨rfl, rfl, g, _, l, M, pq, Lz, rfl, fX1.kp (kp_same s2), og, ht, few, .inr hq, fun X3 k3 => ?_⟩
      walk_at "rd"
      refine ⟨Rd.small (by show 2 ≤ 100000; decide), fun pl4 n4 => ?_⟩
      have s4 := same_new (o := HO.lst ([V.bl (g.subs.all (fits1 M Lz)), V.bl (g.subs.all (fits1 M Lz))])) n4
      have t4 := upd_same (H := X3) (a := pl4) (o := HO.lst ([V.bl (g.subs.all (fits1 M Lz)), V.bl (g.subs.all (fits1 M Lz))]))
      generalize upd X3 pl4 (HO.lst ([V.bl (g.subs.all (fits1 M Lz)), V.bl (g.subs.all (fits1 M Lz))])) = X4 at s4 t4 ⊢
      walk_at "rd"
      refine repr_bl t4 ?_
      walk_at "rd"
      refine ⟨Rd.small (by show 2 ≤ 100000; decide), fun pl5 n5 => ?_⟩
      have s5 := same_new (o := HO.lst ([V.bl (g.subs.all (fits1 M Lz)), V.bl (g.subs.all (fits1 M Lz))])) n5
      have t5 := upd_same (H := X4) (a := pl5) (o := HO.lst ([V.bl (g.subs.all (fits1 M Lz)), V.bl (g.subs.all (fits1 M Lz))]))
      generalize upd X4 pl5 (HO.lst ([V.bl (g.subs.all (fits1 M Lz)), V.bl (g.subs.all (fits1 M Lz))])) = X5 at s5 t5 ⊢
      walk_at "rd"
      refine repr_bl t5 ?_
      refine ⟨rfl, ?_⟩
      rw [decide_eq_true rfl]
      exact q X5 (k12.trans ((kq_same sX2).trans (k1.kq.trans ((kq_same s2).trans (k3.kq.trans (kq_same (s4.trans s5)))))))
end
end K12

namespace K12
open PySem PySem.Spec PyProof.Rows L2
local macro_rules | `(tactic| walk_at "rd1") => `(tactic| first
  | (with_reducible refine Rd.seq ?_) | (with_reducible refine Rd.asg ?_) | (with_reducible refine Rd.ret ?_) | (with_reducible refine Rd.nxt ?_) | (with_reducible refine Rd.ifS ?_)
  | (with_reducible refine Rd.op ?_) | (with_reducible refine Rd.un ?_) | (with_reducible refine Rd.cb ?_) | (with_reducible refine Rd.cons ?_) | (with_reducible refine Rd.nil ?_) | (with_reducible refine Rd.ifx ?_)
  | (with_reducible refine Rd.test ?_) | (with_reducible refine Rd.testB ?_) | (with_reducible refine Rd.notT ?_) | (with_reducible refine Rd.isB ?_) | (with_reducible refine Rd.lst ?_) | (with_reducible refine Rd.tup ?_)
  | (with_reducible refine Rd.andV ?_) | (with_reducible refine Rd.orV ?_) | (with_reducible refine Rd.notV ?_) | (with_reducible refine Rd.andT ?_) | (with_reducible refine Rd.orT ?_) | (with_reducible refine Rd.chain ?_)
  | (with_reducible refine Rd.m0 ?_) | (with_reducible refine Rd.m1 ?_) | (with_reducible refine Rd.bm0 ?_) | (with_reducible refine Rd.bm ?_) | (with_reducible refine Rd.sl ?_) | (with_reducible refine Rd.part ?_) | (with_reducible refine Rd.part0 ?_) | (with_reducible refine Rd.isI ?_)
  | (with_reducible refine Rd.fmt ?_) | (with_reducible refine Rd.fmtRD ?_) | (with_reducible refine Rd.meth ?_) | (with_reducible refine makeG ?_) | (with_reducible refine Rd.prop ?_) | (with_reducible refine Rd.js ?_) | (with_reducible refine Rd.js0 ?_) | (with_reducible refine Rd.par ?_) | (with_reducible refine Rd.star ?_) | (with_reducible refine lcR1 ?_) | (with_reducible refine lcR2 ?_) | (with_reducible refine Rd.fld ?_) | (with_reducible refine Rd.sfld ?_) | (with_reducible refine Rd.expr ?_) | (with_reducible refine L2.isNR ?_) | (with_reducible refine L2.methI ?_) | (with_reducible refine Rd.forZ ?_)
  | (with_reducible refine Rd.forEA ?_) | (with_reducible refine Rd.forR1 ?_) | (with_reducible refine Rd.forR2 ?_) | (with_reducible refine Rd.forL ?_) | (with_reducible refine Rd.forT ?_)
  | (with_reducible refine Rd.call ?_) | (with_reducible refine Rd.asgG ?_) | (with_reducible refine Rd.gNm ?_) | (with_reducible refine Rd.gSb ?_) | (with_reducible refine Rd.gC ?_) | (with_reducible refine Rd.gN ?_)
  | ((with_reducible refine' Rd.var ?hv ?_); (case hv => exact rfl)) | (with_reducible refine Rd.c ?_) | (with_reducible refine Rd.i0 ?_) | (with_reducible refine Rd.neg ?_)
  | ((with_reducible refine' Rd.iC ?hc ?_); (case hc => first | (show (0 : Int) < _; decide) | exact ⟨by decide, by decide⟩ | exact ⟨by decide, by decide, by decide⟩ | exact .inl ⟨by decide, by decide⟩ | exact .inr ⟨by decide, by decide⟩ | exact .inl ⟨by omega, by omega⟩ | (show (0 : Int) < _; omega) | exact ⟨by omega, by omega⟩))
  | ((with_reducible refine' Rd.eqS ?hc ?_); (case hc => rfl)) | ((with_reducible refine' Rd.neS ?hc ?_); (case hc => rfl)))
local macro_rules | `(tactic| walk_at "rd") => `(tactic| repeat walk_at "rd1")
theorem namA : Nam "a" := ⟨by decide +kernel, by decide +kernel, by decide +kernel, by decide +kernel, by decide +kernel, by decide +kernel, by decide +kernel, by decide +kernel⟩
theorem namB : Nam "b" := ⟨by decide +kernel, by decide +kernel, by decide +kernel, by decide +kernel, by decide +kernel, by decide +kernel, by decide +kernel, by decide +kernel⟩
theorem asc3 : Asc [3] := ⟨fun i n e => by
  match i, e with
  | 0, e => cases e; exact ⟨by decide, by decide⟩
  | _ + 1, e => simp at e, by decide⟩
def fFA : Fm := .pair 0 (.ref 0 "a") (.cho (.num 1) [3] (.num 0) (.ref 1 "b"))
theorem okFA : Okf fFA := ⟨by decide, ⟨by decide, namA⟩, asc3, by show 1 ≤ 8; decide, by show 0 ≤ 8; decide, by decide, namB⟩
theorem htFA {n : Nat} (hn : 3 ≤ n) : fFA.ht ≤ n := hn
def b5D : PyData := .list [.bool true, .bool false, .bool false, .bool true, .bool false]
theorem b5_shw : Shw b5D := .of (by decide +kernel) (by decide +kernel) (by decide +kernel) (by decide +kernel) (by decide +kernel)
theorem repr_b5 {K : PySem.W.Frag} {H : Hp} {Q : VK} {p : Addr} (h : H p = some (.lst [V.bl true, V.bl false, V.bl false, V.bl true, V.bl false])) (q : Q (.str b5D.shown) H) : rRepr K [.ref p] H Q :=
  ⟨p, b5D, rfl, .lst (SqL.of h) (.cons (.bl _) (.cons (.bl _) (.cons (.bl _) (.cons (.bl _) (.cons (.bl _) .nil))))), b5_shw.sw, b5_shw.dp, Rd.small (Nat.le_trans b5_shw.ln (by decide)), q⟩
abbrev sFA : Stmt := topA i_law_fits_again
def spFA (K : PySem.W.Frag) (c : Cs) : Sp := fun vs H Q _ => vs = [] ∧ ∀ H', Kf K c H H' → Q (.bl true) H'
section
variable {P : Program} {w : World} {K : PySem.W.Frag} {mg : Str → Option Value} {base : Heap} {c : Cs} {f fI : Addr} {fd fdI : FuncData}
abbrev nmsFA : List Str := ["_law_made", "_law_told"]
theorem scFA : FnScope nmsFA [] (defScope sFA) := ⟨rfl, rfl, rfl, by decide +kernel, rfl, by decide +kernel, by decide +kernel⟩
theorem ok_fa {n : Nat} (F : FnP K "_law_fits_again" sFA f fd) (T : Cl K c) (M : Mks P w K mg base c) (hn : 3 ≤ n)
    (mI : ∀ g, Meth K (clsOf c g) "fits" fI) (FI : FunD K "fits" "Formula.fits" (defArgs sFits) (defBody sFits) (defScope sFits) [] [] fI fdI) (GI : FnOk P w K mg base CX0 (n + 2) fI fdI ["self", "modulus", "columns"] (spFits K c n))
    (gRepr : mg "repr" = none) (sm : smOk K = true) : FnG P w K mg base CX0 (n + 3) f fd [] (spFA K c) := by
  have bI : Binds K fdI ["self", "modulus", "columns"] [] := FI.bindsN fun _ _ _ _ _ _ us hl => match us, hl with | [_, _, _], _ => rfl
  obtain ⟨fN, fdN, cN⟩ := M.num
  obtain ⟨f0, fd0, c0⟩ := M.ref 0 (by decide)
  obtain ⟨f1, fd1, c1⟩ := M.ref 1 (by decide)
  obtain ⟨fp, fdp, cp⟩ := M.pair 0 (by decide)
  obtain ⟨fC, fdC, cC⟩ := M.cho
  have nd := scFA.nd
  refine F.okG scFA (fun vs H Q E h => ?_) (fun cdv A outer s H vs Q E hgu hr h => ?_)
  · obtain ⟨rfl, _⟩ := h
    rfl
  · obtain ⟨rfl, q⟩ := h
    have r4 := hr.mono (show 4 ≤ n + 2 by omega)
    refine ⟨_, PSs.nox (pss_cons (ps_set (i := 0) nd rfl (Or.inl rfl) (pe_make cp.mkr cp.ok r4 rfl cp.g cp.b .nil pass0 (pa_cons (pe_make c0.mkr c0.ok r4 rfl c0.g c0.b .nil pass0 (pa_cons pe_str pa_nil)) (pa_cons (pe_make cC.mkr cC.ok r4 rfl cC.g cC.b .nil pass0 (pa_cons (pe_make cN.mkr cN.ok r4 rfl cN.g cN.b .nil pass0 (pa_cons pe_int pa_nil)) (pa_cons (pe_tup (pa_cons pe_int pa_nil)) (pa_cons (pe_make cN.mkr cN.ok r4 rfl cN.g cN.b .nil pass0 (pa_cons pe_int pa_nil)) (pa_cons (pe_make c1.mkr c1.ok r4 rfl c1.g c1.b .nil pass0 (pa_cons pe_str pa_nil)) pa_nil))))) pa_nil))))
        (pss_cons (ps_set (i := 1) nd rfl (Or.inl rfl) (pe_lst (pa_cons (pe_methI (ι := Fm) (C := clsOf c) (f := fun _ => fI) (fd := fun _ => fdI) (sp := fun _ => spFits K c n) (pv 0) (fun i => (T.at_ i).cl) mI (fun _ => GI) hr (fun _ => bI) .nil pass0 (pa_cons pe_int (pa_cons (pe_lst (pa_cons pe_str (pa_cons pe_str pa_nil))) pa_nil))) (pa_cons (pe_methI (ι := Fm) (C := clsOf c) (f := fun _ => fI) (fd := fun _ => fdI) (sp := fun _ => spFits K c n) (pv 0) (fun i => (T.at_ i).cl) mI (fun _ => GI) hr (fun _ => bI) .nil pass0 (pa_cons pe_int (pa_cons (pe_lst (pa_cons pe_str (pa_cons pe_str pa_nil))) pa_nil))) (pa_cons (pe_methI (ι := Fm) (C := clsOf c) (f := fun _ => fI) (fd := fun _ => fdI) (sp := fun _ => spFits K c n) (pv 0) (fun i => (T.at_ i).cl) mI (fun _ => GI) hr (fun _ => bI) .nil pass0 (pa_cons pe_int (pa_cons (pe_lst (pa_cons pe_str pa_nil)) pa_nil))) (pa_cons (pe_methI (ι := Fm) (C := clsOf c) (f := fun _ => fI) (fd := fun _ => fdI) (sp := fun _ => spFits K c n) (pv 0) (fun i => (T.at_ i).cl) mI (fun _ => GI) hr (fun _ => bI) .nil pass0 (pa_cons pe_int (pa_cons (pe_tup (pa_cons pe_str (pa_cons pe_str pa_nil))) pa_nil))) pa_nil))))))
        (pss_one (ps_ret (pe_cmpR op_eq (pe_callB (call_reprD hgu hr.units sm) rfl gRepr (by decide +kernel) (pa_cons (pe_op op_cat (pv 1) (pe_lst (pa_cons (pe_methI (ι := Fm) (C := clsOf c) (f := fun _ => fI) (fd := fun _ => fdI) (sp := fun _ => spFits K c n) (pv 0) (fun i => (T.at_ i).cl) mI (fun _ => GI) hr (fun _ => bI) .nil pass0 (pa_cons pe_int (pa_cons (pe_lst (pa_cons pe_str pa_nil)) pa_nil))) pa_nil))) pa_nil)) (pe_callB (call_reprD hgu hr.units sm) rfl gRepr (by decide +kernel) (pa_cons (pe_lst (pa_cons pe_bl (pa_cons pe_bl (pa_cons pe_bl (pa_cons pe_bl (pa_cons pe_bl pa_nil)))))) pa_nil)) (nomark _)))))), ?_⟩
    walk_at "rd"
    refine mkRef namA fun va H1 la na => ?_
    walk_at "rd"
    refine mkNum (n := 1) (by decide) fun v1 H2 l1 n1 => ?_
    walk_at "rd"
    refine ⟨Rd.small (by show 1 ≤ 100000; decide), fun t3 n3 => ?_⟩
    have s3 := same_new (o := HO.tup ([V.int 3])) n3
    have e3 := upd_same (H := H2) (a := t3) (o := HO.tup ([V.int 3]))
    generalize upd H2 t3 (HO.tup ([V.int 3])) = H3 at s3 e3 ⊢
    walk_at "rd"
    refine mkNum (n := 0) (by decide) fun v0 H4 l0 n0 => ?_
    walk_at "rd"
    refine mkRef namB fun vb H5 lb nb => ?_
    walk_at "rd"
    have s5 := nb.same
    have s45 := n0.same.trans s5
    have s35 := s3.trans s45
    refine mkCho (s := [3]) (n1.at_.kp (kp_same s35)) (n0.at_.kp (kp_same s5)) nb.at_ (.inr (SqT.of (s45 _ _ e3))) asc3 (by decide +kernel) (by decide +kernel) fun vc H6 nc => ?_
    walk_at "rd"
    have s16 := n1.same.trans (s35.trans nc.same)
    refine mkPair (na.at_.kp (kp_same s16)) nc.at_ (by decide +kernel) (by decide +kernel) fun vp H7 np => ?_
    have kA : Kf K c H H7 := kf_same (na.same.trans (s16.trans np.same))
    have fm0 := np.at_
    generalize vp :: (la ++ vc :: (l1 ++ (l0 ++ lb))) = lp at fm0
    have og : Okf fFA := okFA
    obtain ⟨a0, dx0, fs0, g0, p0, r0, rfl, _, _, _⟩ := id fm0.obj
    walk_at "rd"
    obtain ⟨x1, dx1, fs1, g1, p1, r1, e1v, _, ha1, bs1⟩ := id fm0.obj
    cases e1v
    refine ⟨fFA, a0, dx1, fs1, rfl, ha1, bs1.meth "fits", ?_⟩
    walk_at "rd"
    refine ⟨Rd.small (by show 2 ≤ 100000; decide), fun y1 m1 => ?_⟩
    have u1 := same_new (o := HO.lst ([V.str "a", V.str "b"])) m1
    have w1 := upd_same (H := H7) (a := y1) (o := HO.lst ([V.str "a", V.str "b"]))
    generalize upd H7 y1 (HO.lst ([V.str "a", V.str "b"])) = G1 at u1 w1 ⊢
    walk_at "rd"
    have fg1 := fm0.kp (kp_same u1)
    refine ⟨fFA, _, lp, 4, y1, [("a" : Str), ("b" : Str)], rfl, fg1, og, htFA hn, by decide +kernel, .inl (SqL.of w1), fun J1 k1 => ?_⟩
    rw [show fFA.subs.all (fits1 4 [("a" : Str), ("b" : Str)]) = true from by decide +kernel]
    have fm1 := k1.fm og fg1
    walk_at "rd"
    obtain ⟨x2, dx2, fs2, g2, p2, r2, e2v, _, ha2, bs2⟩ := id fm1.obj
    cases e2v
    refine ⟨fFA, a0, dx2, fs2, rfl, ha2, bs2.meth "fits", ?_⟩
    walk_at "rd"
    refine ⟨Rd.small (by show 2 ≤ 100000; decide), fun y2 m2 => ?_⟩
    have u2 := same_new (o := HO.lst ([V.str "a", V.str "b"])) m2
    have w2 := upd_same (H := J1) (a := y2) (o := HO.lst ([V.str "a", V.str "b"]))
    generalize upd J1 y2 (HO.lst ([V.str "a", V.str "b"])) = G2 at u2 w2 ⊢
    walk_at "rd"
    have fg2 := fm1.kp (kp_same u2)
    refine ⟨fFA, _, lp, 3, y2, [("a" : Str), ("b" : Str)], rfl, fg2, og, htFA hn, by decide +kernel, .inl (SqL.of w2), fun J2 k2 => ?_⟩
    rw [show fFA.subs.all (fits1 3 [("a" : Str), ("b" : Str)]) = false from by decide +kernel]
    have fm2 := k2.fm og fg2
    walk_at "rd"
    obtain ⟨x3, dx3, fs3, g3, p3, r3, e3v, _, ha3, bs3⟩ := id fm2.obj
    cases e3v
    refine ⟨fFA, a0, dx3, fs3, rfl, ha3, bs3.meth "fits", ?_⟩
    walk_at "rd"
    refine ⟨Rd.small (by show 1 ≤ 100000; decide), fun y3 m3 => ?_⟩
    have u3 := same_new (o := HO.lst ([V.str "a"])) m3
    have w3 := upd_same (H := J2) (a := y3) (o := HO.lst ([V.str "a"]))
    generalize upd J2 y3 (HO.lst ([V.str "a"])) = G3 at u3 w3 ⊢
    walk_at "rd"
    have fg3 := fm2.kp (kp_same u3)
    refine ⟨fFA, _, lp, 9, y3, [("a" : Str)], rfl, fg3, og, htFA hn, by decide +kernel, .inl (SqL.of w3), fun J3 k3 => ?_⟩
    rw [show fFA.subs.all (fits1 9 [("a" : Str)]) = false from by decide +kernel]
    have fm3 := k3.fm og fg3
    walk_at "rd"
    obtain ⟨x4, dx4, fs4, g4, p4, r4, e4v, _, ha4, bs4⟩ := id fm3.obj
    cases e4v
    refine ⟨fFA, a0, dx4, fs4, rfl, ha4, bs4.meth "fits", ?_⟩
    walk_at "rd"
    refine ⟨Rd.small (by show 2 ≤ 100000; decide), fun y4 m4 => ?_⟩
    have u4 := same_new (o := HO.tup ([V.str "b", V.str "a"])) m4
    have w4 := upd_same (H := J3) (a := y4) (o := HO.tup ([V.str "b", V.str "a"]))
    generalize upd J3 y4 (HO.tup ([V.str "b", V.str "a"])) = G4 at u4 w4 ⊢
    walk_at "rd"
    have fg4 := fm3.kp (kp_same u4)
    refine ⟨fFA, _, lp, 9, y4, [("b" : Str), ("a" : Str)], rfl, fg4, og, htFA hn, by decide +kernel, .inr (SqT.of w4), fun J4 k4 => ?_⟩
    rw [show fFA.subs.all (fits1 9 [("b" : Str), ("a" : Str)]) = true from by decide +kernel]
    have fm4 := k4.fm og fg4
    walk_at "rd"
    refine ⟨Rd.small (by show 4 ≤ 100000; decide), fun pl nl => ?_⟩
    have sl := same_new (o := HO.lst ([V.bl true, V.bl false, V.bl false, V.bl true])) nl
    have tl := upd_same (H := J4) (a := pl) (o := HO.lst ([V.bl true, V.bl false, V.bl false, V.bl true]))
    generalize upd J4 pl (HO.lst ([V.bl true, V.bl false, V.bl false, V.bl true])) = J41 at sl tl ⊢
    walk_at "rd"
    have fmz := fm4.kp (kp_same sl)
    obtain ⟨x5, dx5, fs5, g5, p5, r5, e5v, _, ha5, bs5⟩ := id fmz.obj
    cases e5v
    refine ⟨fFA, a0, dx5, fs5, rfl, ha5, bs5.meth "fits", ?_⟩
    walk_at "rd"
    refine ⟨Rd.small (by show 1 ≤ 100000; decide), fun y5 m5 => ?_⟩
    have u5 := same_new (o := HO.lst ([V.str "b"])) m5
    have w5 := upd_same (H := J41) (a := y5) (o := HO.lst ([V.str "b"]))
    generalize upd J41 y5 (HO.lst ([V.str "b"])) = G5 at u5 w5 ⊢
    walk_at "rd"
    have fg5 := fmz.kp (kp_same u5)
    refine ⟨fFA, _, lp, 3, y5, [("b" : Str)], rfl, fg5, og, htFA hn, by decide +kernel, .inl (SqL.of w5), fun J5 k5 => ?_⟩
    rw [show fFA.subs.all (fits1 3 [("b" : Str)]) = false from by decide +kernel]
    have fm5 := k5.fm og fg5
    walk_at "rd"
    have tl5 := k5.oth (u5 _ _ tl) fun _ _ _ z => by cases z
    refine ⟨Rd.small (by show 1 ≤ 100000; decide), fun pk nk => ?_⟩
    have sk := same_new (o := HO.lst ([V.bl false])) nk
    have tk := upd_same (H := J5) (a := pk) (o := HO.lst ([V.bl false]))
    generalize upd J5 pk (HO.lst ([V.bl false])) = J51 at sk tk ⊢
    walk_at "rd"
    refine ⟨pl, pk, _, _, rfl, rfl, sk _ _ tl5, tk, Rd.small (by show 5 ≤ 100000; decide), fun r nr => ?_⟩
    have sr := same_new (o := HO.lst ([V.bl true, V.bl false, V.bl false, V.bl true] ++ [V.bl false])) nr
    have tr := upd_same (H := J51) (a := r) (o := HO.lst ([V.bl true, V.bl false, V.bl false, V.bl true] ++ [V.bl false]))
    generalize upd J51 r (.lst ([V.bl true, V.bl false, V.bl false, V.bl true] ++ [V.bl false])) = J6 at sr tr ⊢
    walk_at "rd"
    refine repr_b5 tr ?_
    walk_at "rd"
    refine ⟨Rd.small (by show 5 ≤ 100000; decide), fun ps ns => ?_⟩
    have ss := same_new (o := HO.lst ([V.bl true, V.bl false, V.bl false, V.bl true, V.bl false])) ns
    have ts := upd_same (H := J6) (a := ps) (o := HO.lst ([V.bl true, V.bl false, V.bl false, V.bl true, V.bl false]))
    generalize upd J6 ps (HO.lst ([V.bl true, V.bl false, V.bl false, V.bl true, V.bl false])) = J7 at ss ts ⊢
    walk_at "rd"
    refine repr_b5 ts ?_
    refine ⟨rfl, ?_⟩
    rw [decide_eq_true rfl]
    refine q J7 ?_
    exact kA.trans ((kf_same u1).trans (k1.trans ((kf_same u2).trans (k2.trans ((kf_same u3).trans (k3.trans ((kf_same u4).trans (k4.trans ((kf_same (sl.trans u5)).trans (k5.trans (kf_same (sk.trans (sr.trans ss)))))))))))))
end
end K12

namespace K12
open PySem PySem.Spec PyProof.Rows L2
local macro_rules | `(tactic| walk_at "rd1") => `(tactic| first
  | (with_reducible refine Rd.seq ?_) | (with_reducible refine Rd.asg ?_) | (with_reducible refine Rd.ret ?_) | (with_reducible refine Rd.nxt ?_) | (with_reducible refine Rd.ifS ?_)
  | (with_reducible refine Rd.op ?_) | (with_reducible refine Rd.un ?_) | (with_reducible refine Rd.cb ?_) | (with_reducible refine Rd.cons ?_) | (with_reducible refine Rd.nil ?_) | (with_reducible refine Rd.ifx ?_)
  | (with_reducible refine Rd.test ?_) | (with_reducible refine Rd.testB ?_) | (with_reducible refine Rd.notT ?_) | (with_reducible refine Rd.isB ?_) | (with_reducible refine Rd.lst ?_) | (with_reducible refine Rd.tup ?_)
  | (with_reducible refine Rd.andV ?_) | (with_reducible refine Rd.orV ?_) | (with_reducible refine Rd.notV ?_) | (with_reducible refine Rd.andT ?_) | (with_reducible refine Rd.orT ?_) | (with_reducible refine Rd.chain ?_)
  | (with_reducible refine Rd.m0 ?_) | (with_reducible refine Rd.m1 ?_) | (with_reducible refine Rd.bm0 ?_) | (with_reducible refine Rd.bm ?_) | (with_reducible refine Rd.sl ?_) | (with_reducible refine Rd.part ?_) | (with_reducible refine Rd.part0 ?_) | (with_reducible refine Rd.isI ?_)
  | (with_reducible refine Rd.fmt ?_) | (with_reducible refine Rd.fmtRD ?_) | (with_reducible refine Rd.meth ?_) | (with_reducible refine makeG ?_) | (with_reducible refine Rd.prop ?_) | (with_reducible refine Rd.js ?_) | (with_reducible refine Rd.js0 ?_) | (with_reducible refine Rd.par ?_) | (with_reducible refine Rd.star ?_) | (with_reducible refine lcR1 ?_) | (with_reducible refine lcR2 ?_) | (with_reducible refine Rd.fld ?_) | (with_reducible refine Rd.sfld ?_) | (with_reducible refine Rd.expr ?_) | (with_reducible refine L2.isNR ?_) | (with_reducible refine L2.methI ?_) | (with_reducible refine Rd.forZ ?_)
  | (with_reducible refine Rd.forEA ?_) | (with_reducible refine Rd.forR1 ?_) | (with_reducible refine Rd.forR2 ?_) | (with_reducible refine Rd.forL ?_) | (with_reducible refine Rd.forT ?_)
  | (with_reducible refine Rd.call ?_) | (with_reducible refine Rd.asgG ?_) | (with_reducible refine Rd.gNm ?_) | (with_reducible refine Rd.gSb ?_) | (with_reducible refine Rd.gC ?_) | (with_reducible refine Rd.gN ?_)
  | ((with_reducible refine' Rd.var ?hv ?_); (case hv => exact rfl)) | (with_reducible refine Rd.c ?_) | (with_reducible refine Rd.i0 ?_) | (with_reducible refine Rd.neg ?_)
  | ((with_reducible refine' Rd.iC ?hc ?_); (case hc => first | (show (0 : Int) < _; decide) | exact ⟨by decide, by decide⟩ | exact ⟨by decide, by decide, by decide⟩ | exact .inl ⟨by decide, by decide⟩ | exact .inr ⟨by decide, by decide⟩ | exact .inl ⟨by omega, by omega⟩ | (show (0 : Int) < _; omega) | exact ⟨by omega, by omega⟩))
  | ((with_reducible refine' Rd.eqS ?hc ?_); (case hc => rfl)) | ((with_reducible refine' Rd.neS ?hc ?_); (case hc => rfl)))
local macro_rules | `(tactic| walk_at "rd") => `(tactic| repeat walk_at "rd1")
/-! ### what is too deep -/
/-- the way out of a formula that would be too deep -/
def Deep (CT : Addr) (E : XK) (H : Hp) : Prop := ∀ d H', Same H H' → H d = none → H' d = some (.xd [("limit", .int 8), ("what", .str "depth")]) → E (.ref CT) (some d) H'
theorem Deep.same {CT : Addr} {E : XK} {H H1 : Hp} (h : Deep CT E H) (s : Same H H1) : Deep CT E H1 := fun d H' s' n e => h d H' (s.trans s') (s.free n) e
abbrev sTooMany : Stmt := sMeth iTooMany 0
/-- TooMany's __init__ -/
def spTM (C : Addr) : Sp := fun vs H Q _ => ∃ (a : Addr) (x y : V), vs = [.ref a, x, y] ∧ H a = some (exo a C none) ∧ ∀ d, H d = none → d ≠ a → Q .non (upd (upd (upd H d (exd d [("what", x)])) a (exo a C (some d))) d (exd d [("limit", y), ("what", x)]))
/-- what stands around TooMany -/
structure TmG (K : PySem.W.Frag) (mg : Str → Option Value) (CT fT : Addr) : Prop where
  xc : XC K CT
  ini : PySem.W.findIn K (.ref CT) "__init__" = some (some (.ref fT))
  ty : PySem.W.typeIn K (.ref fT) = some (.type "function")
  g : mg "TooMany" = some (.ref CT)
  n1 : PySem.W.findIn K (.ref CT) "what" = some none
  n2 : PySem.W.findIn K (.ref CT) "limit" = some none
theorem raise_deep {CT : Addr} {E : XK} {H : Hp} {σ : L2.St} (h : Deep CT E H) : tMkR CT (spTM CT) (tCons (tC (.str "depth")) (tCons (tC (.int 8)) tNil)) σ H (fun cls d H' => E cls d H') := by
  refine ⟨by show 2 ≤ 1000; decide, fun a na => ⟨a, _, _, rfl, upd_same, fun d hd ne => ⟨rfl, d, [("limit", .int 8), ("what", .str "depth")], ?_, upd_same, ?_, ?_⟩⟩⟩
  · rw [upd_ne ne.symm, upd_same]
  · rw [upd_ne ne] at hd
    exact hd
  · refine h d _ (fun b o e => ?_) ?_ upd_same
    · have hd' : H d = none := by rw [upd_ne ne] at hd; exact hd
      have hb : b ≠ d := ne_of_none e hd'
      have hb2 : b ≠ a := ne_of_none e na
      rw [upd_ne hb]
      unfold del
      rw [if_neg hb2, upd_ne hb, upd_ne hb2, upd_ne hb, upd_ne hb2]
      exact e
    · rw [upd_ne ne] at hd
      exact hd
def spInitFX (K : PySem.W.Frag) (CT : Addr) : Sp := fun args H Q E => ∃ (x C dx g p : Addr) (name : Str) (vs : List V) (ps : List (Nat × Nat)), args = [.ref x, .str name, .ref g, .ref p] ∧ H x = some (.ins C dx []) ∧ Fc K C ∧ SqT K H p vs ∧ Parts K H vs ps ∧ fmN ps ≤ 40 ∧
  (fmD ps ≤ 8 → ∀ H', But x H H' → H' x = some (.ins C dx (baseFs name g p (fmN ps) (fmD ps))) → Q .non H') ∧ (8 < fmD ps → Deep CT E H)
section
variable {P : Program} {w : World} {K : PySem.W.Frag} {mg : Str → Option Value} {base : Heap} {CT C f fT : Addr} {fd fdT : FuncData}
theorem scTM : FnScope ["self", "what", "limit"] ["self", "what", "limit"] (defScope sTooMany) := ⟨rfl, rfl, rfl, by decide +kernel, rfl, by decide +kernel, by decide +kernel⟩
theorem ok_tm (F : FunD K "__init__" "TooMany.__init__" (defArgs sTooMany) (defBody sTooMany) (defScope sTooMany) [] [] fT fdT) (Y : TmG K mg CT fT) : FnOk P w K mg base CX0 1 fT fdT ["self", "what", "limit"] (spTM CT) := by
  refine F.ok scTM (fun vs H Q E h => ?_) (fun cdv A outer s H vs Q E hr h => ?_)
  · obtain ⟨a, v, u, rfl, _⟩ := h
    rfl
  · obtain ⟨a, v, u, rfl, ha, k⟩ := h
    refine ⟨_, PSs.nox (pss_cons (ps_ostX (pv 0) (pv 1)) (pss_one (ps_ostX (pv 0) (pv 2)))), ⟨_, rfl, _, rfl, a, CT, rfl, Y.xc, Y.n1, .inl ⟨ha, fun d hd ne => ?_⟩⟩⟩
    exact ⟨_, rfl, _, rfl, a, CT, rfl, Y.xc, Y.n2, .inr ⟨d, [("what", v)], upd_same, (upd_ne ne).trans upd_same, (by show 1 ≤ 900; decide), k d hd ne⟩⟩
theorem ok_initFX (F : FunD K "__init__" "Formula.__init__" (defArgs sInitF) (defBody sInitF) (defScope sInitF) [] [] f fd) (T : Gf mg) (Y : TmG K mg CT fT) (FT : FunD K "__init__" "TooMany.__init__" (defArgs sTooMany) (defBody sTooMany) (defScope sTooMany) [] [] fT fdT) (GT : FnOk P w K mg base CX0 1 fT fdT ["self", "what", "limit"] (spTM CT)) : FnOk P w K mg base (L2.CX P w) 3 f fd ["self", "name", "given", "parts"] (spInitFX K CT) := by
  have bT : Binds K fdT ["self", "what", "limit"] [] := FT.bindsN fun _ _ _ _ _ _ us hl => match us, hl with | [_, _, _], _ => rfl
  obtain ⟨t1, gN⟩ := T.mn
  obtain ⟨t2, gD⟩ := T.md
  refine F.ok scInitF (fun vs H Q E h => ?_) (fun cdv A outer s H vs Q E hr h => ?_)
  · obtain ⟨x, C, dx, g, p, name, us, ps, rfl, _⟩ := h
    rfl
  · obtain ⟨x, C, dx, g, p, name, us, ps, rfl, hx, fc, hp, pt, le1, q, dp⟩ := h
    have tk : Takes (cxOf (L2.CX P w) P w K mg base ["self", "name", "given", "parts", "many", "depth", "part"] "Formula.__init__" (defScope sInitF) f cdv A outer s H E) (fun cls d _ H => E cls d H) := takes_of rfl rfl rfl rfl
    refine ⟨_, (pss_cons (ps_set (i := 4) scInitF.nd rfl (Or.inl rfl) pe_int) (pss_cons (ps_set (i := 5) scInitF.nd rfl (Or.inl rfl) pe_int)
      (pss_cons (ps_for (passes_of rfl) rfl (pi_tup (pv 3)) (pg_name (i := 6) scInitF.nd rfl (Or.inl rfl))
        (pss_cons (ps_set (i := 4) scInitF.nd rfl (Or.inl rfl) (pe_op op_add (pv 4) (pe_fld (pv 6) rfl)))
        (pss_one (ps_if (pt_cmpR op_ge (pe_fld (pv 6) rfl) (pv 5) (nomark _)) (pss_one (ps_set (i := 5) scInitF.nd rfl (Or.inl rfl) (pe_op op_add (pe_fld (pv 6) rfl) pe_int))) pss_nil))))
      (pss_cons (ps_if (pt_cmpR op_gt (pv 4) (pe_glob rfl gN (v := .int 40) ⟨_, rfl⟩) (nomark _)) (pss_one ps_never) pss_nil)
      (pss_cons (ps_if (pt_cmpR op_gt (pv 5) (pe_glob rfl gD (v := .int 8) ⟨_, rfl⟩) (nomark _)) (pss_one (ps_raise rfl tk (pmk_exc Y.xc Y.ini Y.ty GT hr bT pass0 rfl Y.g (pa_cons pe_str (pa_cons (pe_glob rfl gD (v := .int 8) ⟨_, rfl⟩) pa_nil))))) pss_nil)
      (pss_cons (ps_fld (pv 0) (pv 1) rfl) (pss_cons (ps_fld (pv 0) (pv 2) rfl) (pss_cons (ps_fld (pv 0) (pv 3) rfl) (pss_cons (ps_fld (pv 0) (pv 4) rfl) (pss_cons (ps_fld (pv 0) pe_non rfl)
      (pss_one (ps_fld (pv 0) (pv 5) rfl)))))))))))), ?_⟩
    walk_at "rd"
    refine ⟨p, rfl, ⟨_, hp⟩, ?_⟩
    refine for_it walk_tup (fun i σ H' => (∃ b, σ = [some (.ref x), some (.str name), some (.ref g), some (.ref p), some (.int (fmN (ps.take i) : Nat)), some (.int (fmD (ps.take i) : Nat)), b]) ∧ H' = H) ⟨⟨_, rfl⟩, rfl⟩ (fun i σ H' _ z => by rw [z.2]; exact hp) (fun i v σ H2 H3 hi hy z => ?_) (fun σ H' z => ?_)
    · obtain ⟨⟨b, rfl⟩, rfl⟩ := hy
      obtain ⟨rfl, ev⟩ := z
      obtain ⟨c, ec, a', C', dx', fs', rfl, ha', fc', l1, l2⟩ := pt.at_ i v ev
      walk_at "rd"
      refine ⟨a', C', dx', fs', _, rfl, ha', fc'.cl, fc'.no "_many", l1, ?_⟩
      walk_at "rd"
      refine ⟨a', C', dx', fs', _, rfl, ha', fc'.cl, fc'.no "depth", l2, ?_⟩
      walk_at "rd"
      have e1 : ((fmN (ps.take i) : Nat) : Int) + ((c.1 : Nat) : Int) = ((fmN (ps.take (i + 1)) : Nat) : Int) := by rw [fmN_take ec, Int.natCast_add]
      have e2 := fmD_take ec
      refine Rd.ifB (fun z => ?_) (fun z => ?_)
      · have z := of_decide_eq_true z
        walk_at "rd"
        refine ⟨a', C', dx', fs', _, rfl, ha', fc'.cl, fc'.no "depth", l2, ?_⟩
        walk_at "rd"
        rw [if_pos (by omega)] at e2
        refine ⟨⟨some (.ref a'), ?_⟩, rfl⟩
        rw [← e1, e2, Int.natCast_add]
        rfl
      · have z := of_decide_eq_false z
        walk_at "rd"
        rw [if_neg (by omega)] at e2
        refine ⟨⟨some (.ref a'), ?_⟩, rfl⟩
        rw [← e1, e2]
        rfl
    · obtain ⟨⟨b, rfl⟩, rfl⟩ := z
      rw [pt.len, List.take_length]
      walk_at "rd"
      refine Rd.ifB (fun z => ?_) (fun _ => ?_)
      · have := of_decide_eq_true z
        omega
      walk_at "rd"
      refine Rd.ifB (fun z => ?_) (fun z => ?_)
      · have := of_decide_eq_true z
        exact raise_deep (dp (by omega))
      have le2 : fmD ps ≤ 8 := by
        have := of_decide_eq_false z
        omega
      walk_at "rd"
      refine ⟨x, C, dx, _, rfl, hx, fc.cl, fc.no "_called", (by decide : 0 < 1000), ?_⟩
      have x1 := upd_same (H := H') (a := x) (o := HO.ins C dx (putF "_called" (.str name) []))
      have b1 := But.set (p := x) (H := H') (o := HO.ins C dx (putF "_called" (.str name) []))
      generalize upd H' x (HO.ins C dx (putF "_called" (.str name) [])) = H1 at x1 b1 ⊢
      walk_at "rd"
      refine ⟨x, C, dx, [("_called", .str name)], rfl, x1, fc.cl, fc.no "_given", (by decide : 1 < 1000), ?_⟩
      have x2 := upd_same (H := H1) (a := x) (o := HO.ins C dx (putF "_given" (.ref g) [("_called", .str name)]))
      have b2 := But.set (p := x) (H := H1) (o := HO.ins C dx (putF "_given" (.ref g) [("_called", .str name)]))
      generalize upd H1 x (HO.ins C dx (putF "_given" (.ref g) [("_called", .str name)])) = H2 at x2 b2 ⊢
      walk_at "rd"
      refine ⟨x, C, dx, [("_called", .str name), ("_given", (.ref g))], rfl, x2, fc.cl, fc.no "_parts", (by decide : 2 < 1000), ?_⟩
      have x3 := upd_same (H := H2) (a := x) (o := HO.ins C dx (putF "_parts" (.ref p) [("_called", .str name), ("_given", (.ref g))]))
      have b3 := But.set (p := x) (H := H2) (o := HO.ins C dx (putF "_parts" (.ref p) [("_called", .str name), ("_given", (.ref g))]))
      generalize upd H2 x (HO.ins C dx (putF "_parts" (.ref p) [("_called", .str name), ("_given", (.ref g))])) = H3 at x3 b3 ⊢
      walk_at "rd"
      refine ⟨x, C, dx, [("_called", .str name), ("_given", (.ref g)), ("_parts", (.ref p))], rfl, x3, fc.cl, fc.no "_many", (by decide : 3 < 1000), ?_⟩
      have x4 := upd_same (H := H3) (a := x) (o := HO.ins C dx (putF "_many" (.int (fmN ps : Nat)) [("_called", .str name), ("_given", (.ref g)), ("_parts", (.ref p))]))
      have b4 := But.set (p := x) (H := H3) (o := HO.ins C dx (putF "_many" (.int (fmN ps : Nat)) [("_called", .str name), ("_given", (.ref g)), ("_parts", (.ref p))]))
      generalize upd H3 x (HO.ins C dx (putF "_many" (.int (fmN ps : Nat)) [("_called", .str name), ("_given", (.ref g)), ("_parts", (.ref p))])) = H4 at x4 b4 ⊢
      walk_at "rd"
      refine ⟨x, C, dx, [("_called", .str name), ("_given", (.ref g)), ("_parts", (.ref p)), ("_many", (.int (fmN ps : Nat)))], rfl, x4, fc.cl, fc.no "_sequence", (by decide : 4 < 1000), ?_⟩
      have x5 := upd_same (H := H4) (a := x) (o := HO.ins C dx (putF "_sequence" (.non) [("_called", .str name), ("_given", (.ref g)), ("_parts", (.ref p)), ("_many", (.int (fmN ps : Nat)))]))
      have b5 := But.set (p := x) (H := H4) (o := HO.ins C dx (putF "_sequence" (.non) [("_called", .str name), ("_given", (.ref g)), ("_parts", (.ref p)), ("_many", (.int (fmN ps : Nat)))]))
      generalize upd H4 x (HO.ins C dx (putF "_sequence" (.non) [("_called", .str name), ("_given", (.ref g)), ("_parts", (.ref p)), ("_many", (.int (fmN ps : Nat)))])) = H5 at x5 b5 ⊢
      walk_at "rd"
      refine ⟨x, C, dx, [("_called", .str name), ("_given", (.ref g)), ("_parts", (.ref p)), ("_many", (.int (fmN ps : Nat))), ("_sequence", .non)], rfl, x5, fc.cl, fc.no "depth", (by decide : 5 < 1000), ?_⟩
      have x6 := upd_same (H := H5) (a := x) (o := HO.ins C dx (putF "depth" (.int (fmD ps : Nat)) [("_called", .str name), ("_given", (.ref g)), ("_parts", (.ref p)), ("_many", (.int (fmN ps : Nat))), ("_sequence", .non)]))
      have b6 := But.set (p := x) (H := H5) (o := HO.ins C dx (putF "depth" (.int (fmD ps : Nat)) [("_called", .str name), ("_given", (.ref g)), ("_parts", (.ref p)), ("_many", (.int (fmN ps : Nat))), ("_sequence", .non)]))
      generalize upd H5 x (HO.ins C dx (putF "depth" (.int (fmD ps : Nat)) [("_called", .str name), ("_given", (.ref g)), ("_parts", (.ref p)), ("_many", (.int (fmN ps : Nat))), ("_sequence", .non)])) = H6 at x6 b6 ⊢
      walk_at "rd"
      exact q le2 _ (b1.trans (b2.trans (b3.trans (b4.trans (b5.trans b6))))) x6
end
end K12

namespace K12
open PySem PySem.Spec PyProof.Rows L2
local macro_rules | `(tactic| walk_at "rd1") => `(tactic| first
  | (with_reducible refine Rd.seq ?_) | (with_reducible refine Rd.asg ?_) | (with_reducible refine Rd.ret ?_) | (with_reducible refine Rd.nxt ?_) | (with_reducible refine Rd.ifS ?_)
  | (with_reducible refine Rd.op ?_) | (with_reducible refine Rd.un ?_) | (with_reducible refine Rd.cb ?_) | (with_reducible refine Rd.cons ?_) | (with_reducible refine Rd.nil ?_) | (with_reducible refine Rd.ifx ?_)
  | (with_reducible refine Rd.test ?_) | (with_reducible refine Rd.testB ?_) | (with_reducible refine Rd.notT ?_) | (with_reducible refine Rd.isB ?_) | (with_reducible refine Rd.lst ?_) | (with_reducible refine Rd.tup ?_)
  | (with_reducible refine Rd.andV ?_) | (with_reducible refine Rd.orV ?_) | (with_reducible refine Rd.notV ?_) | (with_reducible refine Rd.andT ?_) | (with_reducible refine Rd.orT ?_) | (with_reducible refine Rd.chain ?_)
  | (with_reducible refine Rd.m0 ?_) | (with_reducible refine Rd.m1 ?_) | (with_reducible refine Rd.bm0 ?_) | (with_reducible refine Rd.bm ?_) | (with_reducible refine Rd.sl ?_) | (with_reducible refine Rd.part ?_) | (with_reducible refine Rd.part0 ?_) | (with_reducible refine Rd.isI ?_)
  | (with_reducible refine Rd.fmt ?_) | (with_reducible refine Rd.fmtRD ?_) | (with_reducible refine Rd.meth ?_) | (with_reducible refine Rd.make ?_) | (with_reducible refine Rd.prop ?_) | (with_reducible refine Rd.js ?_) | (with_reducible refine Rd.js0 ?_) | (with_reducible refine Rd.par ?_) | (with_reducible refine Rd.star ?_) | (with_reducible refine lcR1 ?_) | (with_reducible refine lcR2 ?_) | (with_reducible refine Rd.fld ?_) | (with_reducible refine Rd.sfld ?_) | (with_reducible refine Rd.expr ?_) | (with_reducible refine L2.isNR ?_) | (with_reducible refine L2.methI ?_) | (with_reducible refine Rd.forZ ?_)
  | (with_reducible refine Rd.forEA ?_) | (with_reducible refine Rd.forR1 ?_) | (with_reducible refine Rd.forR2 ?_) | (with_reducible refine Rd.forL ?_) | (with_reducible refine Rd.forT ?_)
  | (with_reducible refine Rd.call ?_) | (with_reducible refine Rd.asgG ?_) | (with_reducible refine Rd.gNm ?_) | (with_reducible refine Rd.gSb ?_) | (with_reducible refine Rd.gC ?_) | (with_reducible refine Rd.gN ?_)
  | ((with_reducible refine' Rd.var ?hv ?_); (case hv => exact rfl)) | (with_reducible refine Rd.c ?_) | (with_reducible refine Rd.i0 ?_) | (with_reducible refine Rd.neg ?_)
  | ((with_reducible refine' Rd.iC ?hc ?_); (case hc => first | (show (0 : Int) < _; decide) | exact ⟨by decide, by decide⟩ | exact ⟨by decide, by decide, by decide⟩ | exact .inl ⟨by decide, by decide⟩ | exact .inr ⟨by decide, by decide⟩ | exact .inl ⟨by omega, by omega⟩ | (show (0 : Int) < _; omega) | exact ⟨by omega, by omega⟩))
  | ((with_reducible refine' Rd.eqS ?hc ?_); (case hc => rfl)) | ((with_reducible refine' Rd.neS ?hc ?_); (case hc => rfl)))
local macro_rules | `(tactic| walk_at "rd") => `(tactic| repeat walk_at "rd1")
def spPairIX (K : PySem.W.Frag) (CT : Addr) (c : Cs) : Sp := fun args H Q E => ∃ (x dx : Addr) (o : Nat) (f1 f2 : Fm) (v1 v2 : V) (l1 l2 : List V), args = [.ref x, .str (pairName o), v1, v2] ∧ H x = some (.ins (c.pair o) dx []) ∧ FmAt K c H f1 v1 l1 ∧ FmAt K c H f2 v2 l2 ∧
  (Fm.pair o f1 f2).q.1 ≤ 40 ∧ ((Fm.pair o f1 f2).q.2 ≤ 8 → ∀ H', But x H H' → FmAt K c H' (.pair o f1 f2) (.ref x) (.ref x :: (l1 ++ l2)) → SqNon H' (.ref x) → Q .non H') ∧ (8 < (Fm.pair o f1 f2).q.2 → Deep CT E H)
def spPairX (K : PySem.W.Frag) (CT : Addr) (c : Cs) (o : Nat) : Sp := fun args H Q E => ∃ (x dx : Addr) (f1 f2 : Fm) (v1 v2 : V) (l1 l2 : List V), args = [.ref x, v1, v2] ∧ H x = some (.ins (c.pair o) dx []) ∧ FmAt K c H f1 v1 l1 ∧ FmAt K c H f2 v2 l2 ∧
  (Fm.pair o f1 f2).q.1 ≤ 40 ∧ ((Fm.pair o f1 f2).q.2 ≤ 8 → ∀ H', But x H H' → FmAt K c H' (.pair o f1 f2) (.ref x) (.ref x :: (l1 ++ l2)) → SqNon H' (.ref x) → Q .non H') ∧ (8 < (Fm.pair o f1 f2).q.2 → Deep CT E H)
def spChoX (K : PySem.W.Frag) (CT : Addr) (c : Cs) : Sp := fun args H Q E => ∃ (x dx a : Addr) (s : List Nat) (f1 f2 f3 : Fm) (v1 v2 v3 : V) (l1 l2 l3 : List V), args = [.ref x, v1, .ref a, v2, v3] ∧ H x = some (.ins c.cho dx []) ∧ FmAt K c H f1 v1 l1 ∧ FmAt K c H f2 v2 l2 ∧ FmAt K c H f3 v3 l3 ∧ Sv K H a (s.map natV) ∧ Asc s ∧
  (Fm.cho f1 s f2 f3).q.1 ≤ 40 ∧ ((Fm.cho f1 s f2 f3).q.2 ≤ 8 → ∀ H', But x H H' → FmAt K c H' (.cho f1 s f2 f3) (.ref x) (.ref x :: (l1 ++ (l2 ++ l3))) → SqNon H' (.ref x) → Q .non H') ∧ (8 < (Fm.cho f1 s f2 f3).q.2 → Deep CT E H)
section
variable {P : Program} {w : World} {K : PySem.W.Frag} {mg : Str → Option Value} {base : Heap} {c : Cs} {CF CT D C f fB fI fG cc : Addr} {fd fdB fdI fdG : FuncData}
theorem ok_pairX (F : FunD K "__init__" "Pair.__init__" (defArgs sInitP) (defBody sInitP) (defScope sInitP) [] [] f fd) (T : Cl K c)
    (FI : FunD K "__init__" "Formula.__init__" (defArgs sInitF) (defBody sInitF) (defScope sInitF) [] [] fI fdI) {CS : Addr} (gS : mg "Formula" = some (.ref CS)) (cS : CFn K CS "__init__" fI) (GI : FnOk P w K mg base (L2.CX P w) 3 fI fdI ["self", "name", "given", "parts"] (spInitFX K CT))
    (FB : FnP K "_check_formula" sCheckF fB fdB) (GB : FnOk P w K mg base CX0 1 fB fdB ["value"] (spCheckF K c)) (gB : mg "_check_formula" = some (.ref fB)) : FnOk P w K mg base (L2.CX P w) 4 f fd ["self", "name", "left", "right"] (spPairIX K CT c) := by
  have bI : Binds K fdI ["self", "name", "given", "parts"] [] := FI.bindsN fun _ _ _ _ _ _ us hl => match us, hl with | [_, _, _, _], _ => rfl
  have bB : Binds K fdB ["value"] [] := FB.bindsN fun _ _ _ _ _ _ us hl => match us, hl with | [_], _ => rfl
  refine F.ok scPair (fun vs H Q E h => ?_) (fun cdv A outer s H vs Q E hr h => ?_)
  · obtain ⟨x, dx, o, f1, f2, v1, v2, l1, l2, rfl, _⟩ := h
    rfl
  · obtain ⟨x, dx, o, f1, f2, v1, v2, l1, l2, rfl, hx, h1, h2, le1, q, dp⟩ := h
    have fc := T.pair o
    have r1 := hr.mono (show 1 ≤ 3 by decide)
    have tk : Takes (cxOf (L2.CX P w) P w K mg base ["self", "name", "left", "right"] "Pair.__init__" (defScope sInitP) f cdv A outer s H E) (fun cls d _ H => E cls d H) := takes_of rfl rfl rfl rfl
    refine ⟨_, (pss_cons (ps_expr (pe_call GB r1 rfl gB FB.kp bB .nil pass0 (pa_cons (pv 2) pa_nil))) (pss_cons (ps_expr (pe_call GB r1 rfl gB FB.kp bB .nil pass0 (pa_cons (pv 3) pa_nil)))
      (pss_cons (ps_expr (pe_cfn (pe_glob rfl gS (v := .ref CS) rfl) cS GI hr FI.kp bI (passes_call tk fun _ _ _ _ h => h) (pa_cons (pv 0) (pa_cons (pv 1) (pa_cons (pe_tup (pa_cons (pv 2) (pa_cons (pv 3) pa_nil))) (pa_cons (pe_tup (pa_cons (pv 2) (pa_cons (pv 3) pa_nil))) pa_nil))))))
      (pss_cons (ps_fld (pv 0) (pv 2) rfl) (pss_one (ps_fld (pv 0) (pv 3) rfl)))))), ?_⟩
    walk_at "rd"
    refine ⟨f1, v1, l1, rfl, h1, ?_⟩
    walk_at "rd"
    refine ⟨f2, v2, l2, rfl, h2, ?_⟩
    walk_at "rd"
    refine Rd.cfn ?_
    walk_at "rd"
    refine ⟨Rd.small (by show 2 ≤ 100000; decide), fun g n1 => ?_⟩
    have s1 := same_new (o := HO.tup ([v1, v2])) n1
    have t1 := upd_same (H := H) (a := g) (o := HO.tup ([v1, v2]))
    generalize upd H g (HO.tup ([v1, v2])) = H1 at s1 t1 ⊢
    walk_at "rd"
    refine ⟨Rd.small (by show 2 ≤ 100000; decide), fun p n2 => ?_⟩
    have s2 := same_new (o := HO.tup ([v1, v2])) n2
    have t2 := upd_same (H := H1) (a := p) (o := HO.tup ([v1, v2]))
    generalize upd H1 p (HO.tup ([v1, v2])) = H2 at s2 t2 ⊢
    walk_at "rd"
    have x2 := s2 _ _ (s1 _ _ hx)
    have p1 := (h1.kp (kp_same (s1.trans s2))).part T
    have p2 := (h2.kp (kp_same (s1.trans s2))).part T
    refine ⟨x, _, dx, g, p, _, _, [f1.q, f2.q], rfl, x2, fc, SqT.of t2, ⟨rfl, fun i v h => ?_⟩, le1, fun le2 H3 b3 x3 => ?_, fun gt => (dp gt).same (s1.trans s2)⟩
    · match i, h with
      | 0, h => cases h; exact ⟨_, rfl, p1⟩
      | 1, h => cases h; exact ⟨_, rfl, p2⟩
    walk_at "rd"
    refine ⟨x, _, dx, _, rfl, x3, fc.cl, fc.no "left", (by show 6 < 1000; decide), ?_⟩
    have x4 := upd_same (H := H3) (a := x) (o := HO.ins (c.pair o) dx (putF "left" v1 (baseFs (pairName o) g p (fmN [f1.q, f2.q]) (fmD [f1.q, f2.q]))))
    have b4 := But.set (p := x) (H := H3) (o := HO.ins (c.pair o) dx (putF "left" v1 (baseFs (pairName o) g p (fmN [f1.q, f2.q]) (fmD [f1.q, f2.q]))))
    generalize upd H3 x (HO.ins (c.pair o) dx (putF "left" v1 (baseFs (pairName o) g p (fmN [f1.q, f2.q]) (fmD [f1.q, f2.q])))) = H4 at x4 b4 ⊢
    walk_at "rd"
    refine ⟨x, _, dx, _, rfl, x4, fc.cl, fc.no "right", (by show 7 < 1000; decide), ?_⟩
    have x5 := upd_same (H := H4) (a := x) (o := HO.ins (c.pair o) dx (putF "right" v2 (putF "left" v1 (baseFs (pairName o) g p (fmN [f1.q, f2.q]) (fmD [f1.q, f2.q])))))
    have b5 := But.set (p := x) (H := H4) (o := HO.ins (c.pair o) dx (putF "right" v2 (putF "left" v1 (baseFs (pairName o) g p (fmN [f1.q, f2.q]) (fmD [f1.q, f2.q])))))
    generalize upd H4 x (HO.ins (c.pair o) dx (putF "right" v2 (putF "left" v1 (baseFs (pairName o) g p (fmN [f1.q, f2.q]) (fmD [f1.q, f2.q]))))) = H5 at x5 b5 ⊢
    walk_at "rd"
    have b := b3.trans (b4.trans b5)
    have bb : But x H H5 := fun d o hb e => b d o hb (s2 _ _ (s1 _ _ e))
    have ne : ∀ {o : HO} {b : Addr}, H2 b = some o → (∀ C dx fs, o ≠ .ins C dx fs) → b ≠ x := fun e n z => by
      rw [z, x2] at e
      cases e
      exact n _ _ _ rfl
    have g2 := s2 _ _ t1
    have g5 := b _ _ (ne g2 fun _ _ _ z => by cases z) g2
    have p5 := b _ _ (ne t2 fun _ _ _ z => by cases z) t2
    have k5 := kp_new hx bb
    exact q le2 H5 bb ⟨v1, l1, v2, l2, rfl, h1.kp k5, h2.kp k5, x, dx, _, g, p, rfl, x5, ⟨rfl, rfl, rfl, rfl, rfl, ⟨_, rfl, .inl rfl⟩, (by show 8 < 900; decide), rfl⟩, SqT.of g5, SqT.of p5, rfl, rfl⟩ ⟨_, _, _, _, rfl, x5, rfl⟩
theorem ok_plusX (F : FunD K "__init__" "Plus.__init__" (defArgs sInitPlus) (defBody sInitPlus) (defScope sInitPlus) [] [] f fd)
    (FI : FunD K "__init__" "Pair.__init__" (defArgs sInitP) (defBody sInitP) (defScope sInitP) [] [] fI fdI) {CS : Addr} (gS : mg "Pair" = some (.ref CS)) (cS : CFn K CS "__init__" fI) (GI : FnOk P w K mg base (L2.CX P w) 4 fI fdI ["self", "name", "left", "right"] (spPairIX K CT c)) : FnOk P w K mg base (L2.CX P w) 5 f fd ["self", "left", "right"] (spPairX K CT c 0) := by
  have bI : Binds K fdI ["self", "name", "left", "right"] [] := FI.bindsN fun _ _ _ _ _ _ us hl => match us, hl with | [_, _, _, _], _ => rfl
  refine F.ok scPlus (fun vs H Q E h => ?_) (fun cdv A outer s H vs Q E hr h => ?_)
  · obtain ⟨x, dx, f1, f2, v1, v2, l1, l2, rfl, _⟩ := h
    rfl
  · obtain ⟨x, dx, f1, f2, v1, v2, l1, l2, rfl, hx, h1, h2, le1, q, dp⟩ := h
    have tk : Takes (cxOf (L2.CX P w) P w K mg base ["self", "left", "right"] "Plus.__init__" (defScope sInitPlus) f cdv A outer s H E) (fun cls d _ H => E cls d H) := takes_of rfl rfl rfl rfl
    refine ⟨_, (pss_cons (ps_expr (pe_cfn (pe_glob rfl gS (v := .ref CS) rfl) cS GI hr FI.kp bI (passes_call tk fun _ _ _ _ h => h) (pa_cons (pv 0) (pa_cons pe_str (pa_cons (pv 1) (pa_cons (pv 2) pa_nil)))))) pss_nil), ?_⟩
    refine Rd.cfn ?_
    walk_at "rd"
    refine ⟨x, dx, 0, f1, f2, v1, v2, l1, l2, rfl, hx, h1, h2, le1, fun le2 H1 b1 e1 z1 => ?_, dp⟩
    walk_at "rd"
    exact q le2 H1 b1 e1 z1
theorem ok_leastX (F : FunD K "__init__" "Least.__init__" (defArgs sInitLeast) (defBody sInitLeast) (defScope sInitLeast) [] [] f fd)
    (FI : FunD K "__init__" "Pair.__init__" (defArgs sInitP) (defBody sInitP) (defScope sInitP) [] [] fI fdI) {CS : Addr} (gS : mg "Pair" = some (.ref CS)) (cS : CFn K CS "__init__" fI) (GI : FnOk P w K mg base (L2.CX P w) 4 fI fdI ["self", "name", "left", "right"] (spPairIX K CT c)) : FnOk P w K mg base (L2.CX P w) 5 f fd ["self", "left", "right"] (spPairX K CT c 1) := by
  have bI : Binds K fdI ["self", "name", "left", "right"] [] := FI.bindsN fun _ _ _ _ _ _ us hl => match us, hl with | [_, _, _, _], _ => rfl
  refine F.ok scLeast (fun vs H Q E h => ?_) (fun cdv A outer s H vs Q E hr h => ?_)
  · obtain ⟨x, dx, f1, f2, v1, v2, l1, l2, rfl, _⟩ := h
    rfl
  · obtain ⟨x, dx, f1, f2, v1, v2, l1, l2, rfl, hx, h1, h2, le1, q, dp⟩ := h
    have tk : Takes (cxOf (L2.CX P w) P w K mg base ["self", "left", "right"] "Least.__init__" (defScope sInitLeast) f cdv A outer s H E) (fun cls d _ H => E cls d H) := takes_of rfl rfl rfl rfl
    refine ⟨_, (pss_cons (ps_expr (pe_cfn (pe_glob rfl gS (v := .ref CS) rfl) cS GI hr FI.kp bI (passes_call tk fun _ _ _ _ h => h) (pa_cons (pv 0) (pa_cons pe_str (pa_cons (pv 1) (pa_cons (pv 2) pa_nil)))))) pss_nil), ?_⟩
    refine Rd.cfn ?_
    walk_at "rd"
    refine ⟨x, dx, 1, f1, f2, v1, v2, l1, l2, rfl, hx, h1, h2, le1, fun le2 H1 b1 e1 z1 => ?_, dp⟩
    walk_at "rd"
    exact q le2 H1 b1 e1 z1
theorem ok_mostX (F : FunD K "__init__" "Most.__init__" (defArgs sInitMost) (defBody sInitMost) (defScope sInitMost) [] [] f fd)
    (FI : FunD K "__init__" "Pair.__init__" (defArgs sInitP) (defBody sInitP) (defScope sInitP) [] [] fI fdI) {CS : Addr} (gS : mg "Pair" = some (.ref CS)) (cS : CFn K CS "__init__" fI) (GI : FnOk P w K mg base (L2.CX P w) 4 fI fdI ["self", "name", "left", "right"] (spPairIX K CT c)) : FnOk P w K mg base (L2.CX P w) 5 f fd ["self", "left", "right"] (spPairX K CT c 2) := by
  have bI : Binds K fdI ["self", "name", "left", "right"] [] := FI.bindsN fun _ _ _ _ _ _ us hl => match us, hl with | [_, _, _, _], _ => rfl
  refine F.ok scMost (fun vs H Q E h => ?_) (fun cdv A outer s H vs Q E hr h => ?_)
  · obtain ⟨x, dx, f1, f2, v1, v2, l1, l2, rfl, _⟩ := h
    rfl
  · obtain ⟨x, dx, f1, f2, v1, v2, l1, l2, rfl, hx, h1, h2, le1, q, dp⟩ := h
    have tk : Takes (cxOf (L2.CX P w) P w K mg base ["self", "left", "right"] "Most.__init__" (defScope sInitMost) f cdv A outer s H E) (fun cls d _ H => E cls d H) := takes_of rfl rfl rfl rfl
    refine ⟨_, (pss_cons (ps_expr (pe_cfn (pe_glob rfl gS (v := .ref CS) rfl) cS GI hr FI.kp bI (passes_call tk fun _ _ _ _ h => h) (pa_cons (pv 0) (pa_cons pe_str (pa_cons (pv 1) (pa_cons (pv 2) pa_nil)))))) pss_nil), ?_⟩
    refine Rd.cfn ?_
    walk_at "rd"
    refine ⟨x, dx, 2, f1, f2, v1, v2, l1, l2, rfl, hx, h1, h2, le1, fun le2 H1 b1 e1 z1 => ?_, dp⟩
    walk_at "rd"
    exact q le2 H1 b1 e1 z1
theorem ok_sameX (F : FunD K "__init__" "Same.__init__" (defArgs sInitSame) (defBody sInitSame) (defScope sInitSame) [] [] f fd)
    (FI : FunD K "__init__" "Pair.__init__" (defArgs sInitP) (defBody sInitP) (defScope sInitP) [] [] fI fdI) {CS : Addr} (gS : mg "Pair" = some (.ref CS)) (cS : CFn K CS "__init__" fI) (GI : FnOk P w K mg base (L2.CX P w) 4 fI fdI ["self", "name", "left", "right"] (spPairIX K CT c)) : FnOk P w K mg base (L2.CX P w) 5 f fd ["self", "left", "right"] (spPairX K CT c 3) := by
  have bI : Binds K fdI ["self", "name", "left", "right"] [] := FI.bindsN fun _ _ _ _ _ _ us hl => match us, hl with | [_, _, _, _], _ => rfl
  refine F.ok scSame (fun vs H Q E h => ?_) (fun cdv A outer s H vs Q E hr h => ?_)
  · obtain ⟨x, dx, f1, f2, v1, v2, l1, l2, rfl, _⟩ := h
    rfl
  · obtain ⟨x, dx, f1, f2, v1, v2, l1, l2, rfl, hx, h1, h2, le1, q, dp⟩ := h
    have tk : Takes (cxOf (L2.CX P w) P w K mg base ["self", "left", "right"] "Same.__init__" (defScope sInitSame) f cdv A outer s H E) (fun cls d _ H => E cls d H) := takes_of rfl rfl rfl rfl
    refine ⟨_, (pss_cons (ps_expr (pe_cfn (pe_glob rfl gS (v := .ref CS) rfl) cS GI hr FI.kp bI (passes_call tk fun _ _ _ _ h => h) (pa_cons (pv 0) (pa_cons pe_str (pa_cons (pv 1) (pa_cons (pv 2) pa_nil)))))) pss_nil), ?_⟩
    refine Rd.cfn ?_
    walk_at "rd"
    refine ⟨x, dx, 3, f1, f2, v1, v2, l1, l2, rfl, hx, h1, h2, le1, fun le2 H1 b1 e1 z1 => ?_, dp⟩
    walk_at "rd"
    exact q le2 H1 b1 e1 z1
theorem ok_choX (F : FunD K "__init__" "Choice.__init__" (defArgs sInitC) (defBody sInitC) (defScope sInitC) [] [] f fd) (T : Cl K c)
    (FI : FunD K "__init__" "Formula.__init__" (defArgs sInitF) (defBody sInitF) (defScope sInitF) [] [] fI fdI) {CS : Addr} (gS : mg "Formula" = some (.ref CS)) (cS : CFn K CS "__init__" fI) (GI : FnOk P w K mg base (L2.CX P w) 3 fI fdI ["self", "name", "given", "parts"] (spInitFX K CT))
    (FB : FnP K "_check_formula" sCheckF fB fdB) (GB : FnOk P w K mg base CX0 1 fB fdB ["value"] (spCheckF K c)) (gB : mg "_check_formula" = some (.ref fB))
    (FG : FnP K "is_chosen" sChosen fG fdG) (GG : FnOk P w K mg base CX0 2 fG fdG ["value"] (spChosen K)) (gG : mg "is_chosen" = some (.ref fG)) (gTup : mg "tuple" = none) : FnOk P w K mg base (L2.CX P w) 4 f fd ["self", "test", "chosen", "then", "other"] (spChoX K CT c) := by
  have bI : Binds K fdI ["self", "name", "given", "parts"] [] := FI.bindsN fun _ _ _ _ _ _ us hl => match us, hl with | [_, _, _, _], _ => rfl
  have bB : Binds K fdB ["value"] [] := FB.bindsN fun _ _ _ _ _ _ us hl => match us, hl with | [_], _ => rfl
  have bG : Binds K fdG ["value"] [] := FG.bindsN fun _ _ _ _ _ _ us hl => match us, hl with | [_], _ => rfl
  refine F.ok scCho (fun vs H Q E h => ?_) (fun cdv A outer s H vs Q E hr h => ?_)
  · obtain ⟨x, dx, a, sv, f1, f2, f3, v1, v2, v3, l1, l2, l3, rfl, _⟩ := h
    rfl
  · obtain ⟨x, dx, a, sv, f1, f2, f3, v1, v2, v3, l1, l2, l3, rfl, hx, h1, h2, h3, hS, asc, le1, q, dp⟩ := h
    have fc := T.cho
    have hr1 := hr.mono (show 1 ≤ 3 by decide)
    have hr2 := hr.mono (show 2 ≤ 3 by decide)
    have tk : Takes (cxOf (L2.CX P w) P w K mg base ["self", "test", "chosen", "then", "other", "listed"] "Choice.__init__" (defScope sInitC) f cdv A outer s H E) (fun cls d _ H => E cls d H) := takes_of rfl rfl rfl rfl
    refine ⟨_, (pss_cons (ps_expr (pe_call GB hr1 rfl gB FB.kp bB .nil pass0 (pa_cons (pv 1) pa_nil))) (pss_cons (ps_if (pt_not (pt_val (pe_call GG hr2 rfl gG FG.kp bG .nil pass0 (pa_cons (pv 2) pa_nil)))) (pss_one ps_never) pss_nil)
      (pss_cons (ps_expr (pe_call GB hr1 rfl gB FB.kp bB .nil pass0 (pa_cons (pv 3) pa_nil))) (pss_cons (ps_expr (pe_call GB hr1 rfl gB FB.kp bB .nil pass0 (pa_cons (pv 4) pa_nil)))
      (pss_cons (ps_set (i := 5) scCho.nd rfl (Or.inl rfl) (pe_callTy call_tupV rfl gTup (by decide +kernel) (pa_cons (pv 2) pa_nil)))
      (pss_cons (ps_expr (pe_cfn (pe_glob rfl gS (v := .ref CS) rfl) cS GI hr FI.kp bI (passes_call tk fun _ _ _ _ h => h) (pa_cons (pv 0) (pa_cons pe_str (pa_cons (pe_tup (pa_cons (pv 1) (pa_cons (pv 5) (pa_cons (pv 3) (pa_cons (pv 4) pa_nil))))) (pa_cons (pe_tup (pa_cons (pv 1) (pa_cons (pv 3) (pa_cons (pv 4) pa_nil)))) pa_nil))))))
      (pss_cons (ps_fld (pv 0) (pv 1) rfl) (pss_cons (ps_fld (pv 0) (pv 5) rfl) (pss_cons (ps_fld (pv 0) (pv 3) rfl) (pss_one (ps_fld (pv 0) (pv 4) rfl))))))))))), ?_⟩
    walk_at "rd"
    refine ⟨f1, v1, l1, rfl, h1, ?_⟩
    walk_at "rd"
    refine ⟨a, sv, rfl, hS, asc, fun Ha sa => ?_⟩
    walk_at "rd"
    refine iteF ?_
    walk_at "rd"
    refine ⟨f2, v2, l2, rfl, h2.kp (kp_same sa), ?_⟩
    walk_at "rd"
    refine ⟨f3, v3, l3, rfl, h3.kp (kp_same sa), ?_⟩
    walk_at "rd"
    refine ⟨a, _, rfl, hS.same sa, fun t H0 s0 ht => ?_⟩
    walk_at "rd"
    have sa0 := sa.trans s0
    have x0 := sa0 _ _ hx
    refine Rd.cfn ?_
    walk_at "rd"
    refine ⟨Rd.small (by show 4 ≤ 100000; decide), fun g n1 => ?_⟩
    have s1 := same_new (o := HO.tup ([v1, .ref t, v2, v3])) n1
    have t1 := upd_same (H := H0) (a := g) (o := HO.tup ([v1, .ref t, v2, v3]))
    generalize upd H0 g (HO.tup ([v1, .ref t, v2, v3])) = H1 at s1 t1 ⊢
    walk_at "rd"
    refine ⟨Rd.small (by show 3 ≤ 100000; decide), fun p n2 => ?_⟩
    have s2 := same_new (o := HO.tup ([v1, v2, v3])) n2
    have t2 := upd_same (H := H1) (a := p) (o := HO.tup ([v1, v2, v3]))
    generalize upd H1 p (HO.tup ([v1, v2, v3])) = H2 at s2 t2 ⊢
    walk_at "rd"
    have x2 := s2 _ _ (s1 _ _ x0)
    have sA := sa0.trans (s1.trans s2)
    have p1 := (h1.kp (kp_same sA)).part T
    have p2 := (h2.kp (kp_same sA)).part T
    have p3 := (h3.kp (kp_same sA)).part T
    refine ⟨x, _, dx, g, p, _, _, [f1.q, f2.q, f3.q], rfl, x2, fc, SqT.of t2, ⟨rfl, fun i v h => ?_⟩, le1, fun le2 H3 b3 x3 => ?_, fun gt => (dp gt).same sA⟩
    · match i, h with
      | 0, h => cases h; exact ⟨_, rfl, p1⟩
      | 1, h => cases h; exact ⟨_, rfl, p2⟩
      | 2, h => cases h; exact ⟨_, rfl, p3⟩
    walk_at "rd"
    refine ⟨x, _, dx, _, rfl, x3, fc.cl, fc.no "test", (by show 6 < 1000; decide), ?_⟩
    have x4 := upd_same (H := H3) (a := x) (o := HO.ins c.cho dx (putF "test" v1 (baseFs "Choice" g p (fmN [f1.q, f2.q, f3.q]) (fmD [f1.q, f2.q, f3.q]))))
    have b4 := But.set (p := x) (H := H3) (o := HO.ins c.cho dx (putF "test" v1 (baseFs "Choice" g p (fmN [f1.q, f2.q, f3.q]) (fmD [f1.q, f2.q, f3.q]))))
    generalize upd H3 x (HO.ins c.cho dx (putF "test" v1 (baseFs "Choice" g p (fmN [f1.q, f2.q, f3.q]) (fmD [f1.q, f2.q, f3.q])))) = H4 at x4 b4 ⊢
    walk_at "rd"
    refine ⟨x, _, dx, _, rfl, x4, fc.cl, fc.no "chosen", (by show 7 < 1000; decide), ?_⟩
    have x5 := upd_same (H := H4) (a := x) (o := HO.ins c.cho dx (putF "chosen" (.ref t) (putF "test" v1 (baseFs "Choice" g p (fmN [f1.q, f2.q, f3.q]) (fmD [f1.q, f2.q, f3.q])))))
    have b5 := But.set (p := x) (H := H4) (o := HO.ins c.cho dx (putF "chosen" (.ref t) (putF "test" v1 (baseFs "Choice" g p (fmN [f1.q, f2.q, f3.q]) (fmD [f1.q, f2.q, f3.q])))))
    generalize upd H4 x (HO.ins c.cho dx (putF "chosen" (.ref t) (putF "test" v1 (baseFs "Choice" g p (fmN [f1.q, f2.q, f3.q]) (fmD [f1.q, f2.q, f3.q]))))) = H5 at x5 b5 ⊢
    walk_at "rd"
    refine ⟨x, _, dx, _, rfl, x5, fc.cl, fc.no "then", (by show 8 < 1000; decide), ?_⟩
    have x6 := upd_same (H := H5) (a := x) (o := HO.ins c.cho dx (putF "then" v2 (putF "chosen" (.ref t) (putF "test" v1 (baseFs "Choice" g p (fmN [f1.q, f2.q, f3.q]) (fmD [f1.q, f2.q, f3.q]))))))
    have b6 := But.set (p := x) (H := H5) (o := HO.ins c.cho dx (putF "then" v2 (putF "chosen" (.ref t) (putF "test" v1 (baseFs "Choice" g p (fmN [f1.q, f2.q, f3.q]) (fmD [f1.q, f2.q, f3.q]))))))
    generalize upd H5 x (HO.ins c.cho dx (putF "then" v2 (putF "chosen" (.ref t) (putF "test" v1 (baseFs "Choice" g p (fmN [f1.q, f2.q, f3.q]) (fmD [f1.q, f2.q, f3.q])))))) = H6 at x6 b6 ⊢
    walk_at "rd"
    refine ⟨x, _, dx, _, rfl, x6, fc.cl, fc.no "other", (by show 9 < 1000; decide), ?_⟩
    have x7 := upd_same (H := H6) (a := x) (o := HO.ins c.cho dx (putF "other" v3 (putF "then" v2 (putF "chosen" (.ref t) (putF "test" v1 (baseFs "Choice" g p (fmN [f1.q, f2.q, f3.q]) (fmD [f1.q, f2.q, f3.q])))))))
    have b7 := But.set (p := x) (H := H6) (o := HO.ins c.cho dx (putF "other" v3 (putF "then" v2 (putF "chosen" (.ref t) (putF "test" v1 (baseFs "Choice" g p (fmN [f1.q, f2.q, f3.q]) (fmD [f1.q, f2.q, f3.q])))))))
    generalize upd H6 x (HO.ins c.cho dx (putF "other" v3 (putF "then" v2 (putF "chosen" (.ref t) (putF "test" v1 (baseFs "Choice" g p (fmN [f1.q, f2.q, f3.q]) (fmD [f1.q, f2.q, f3.q]))))))) = H7 at x7 b7 ⊢
    walk_at "rd"
    have b := b3.trans (b4.trans (b5.trans (b6.trans b7)))
    have bb : But x H H7 := fun d o hb e => b d o hb (sA _ _ e)
    have k2 := kp_new x2 b
    have ne : ∀ {o : HO} {b : Addr}, H2 b = some o → (∀ C dx fs, o ≠ .ins C dx fs) → b ≠ x := fun e n z => by
      rw [z, x2] at e
      cases e
      exact n _ _ _ rfl
    have g2 := s2 _ _ t1
    have g7 := b _ _ (ne g2 fun _ _ _ z => by cases z) g2
    have p7 := b _ _ (ne t2 fun _ _ _ z => by cases z) t2
    have k7 := kp_new hx bb
    have t7 := sqt_kp k2 (ht.ext (s1.trans s2))
    exact q le2 H7 bb ⟨v1, l1, v2, l2, v3, l3, rfl, h1.kp k7, h2.kp k7, h3.kp k7, x, dx, _, g, p, t, rfl, x7, ⟨rfl, rfl, rfl, rfl, rfl, ⟨_, rfl, .inl rfl⟩, (by show 10 < 900; decide), rfl⟩, SqT.of g7, SqT.of p7, t7, rfl, rfl, rfl, rfl⟩ ⟨_, _, _, _, rfl, x7, rfl⟩
end
end K12

namespace K12
open PySem PySem.Spec PyProof.Rows L2
local macro_rules | `(tactic| walk_at "rd1") => `(tactic| first
  | (with_reducible refine Rd.seq ?_) | (with_reducible refine Rd.asg ?_) | (with_reducible refine Rd.ret ?_) | (with_reducible refine Rd.nxt ?_) | (with_reducible refine Rd.ifS ?_)
  | (with_reducible refine Rd.op ?_) | (with_reducible refine Rd.un ?_) | (with_reducible refine Rd.cb ?_) | (with_reducible refine Rd.cons ?_) | (with_reducible refine Rd.nil ?_) | (with_reducible refine Rd.ifx ?_)
  | (with_reducible refine Rd.test ?_) | (with_reducible refine Rd.testB ?_) | (with_reducible refine Rd.notT ?_) | (with_reducible refine Rd.isB ?_) | (with_reducible refine Rd.lst ?_) | (with_reducible refine Rd.tup ?_)
  | (with_reducible refine Rd.andV ?_) | (with_reducible refine Rd.orV ?_) | (with_reducible refine Rd.notV ?_) | (with_reducible refine Rd.andT ?_) | (with_reducible refine Rd.orT ?_) | (with_reducible refine Rd.chain ?_)
  | (with_reducible refine Rd.m0 ?_) | (with_reducible refine Rd.m1 ?_) | (with_reducible refine Rd.bm0 ?_) | (with_reducible refine Rd.bm ?_) | (with_reducible refine Rd.sl ?_) | (with_reducible refine Rd.part ?_) | (with_reducible refine Rd.part0 ?_) | (with_reducible refine Rd.isI ?_)
  | (with_reducible refine Rd.fmt ?_) | (with_reducible refine Rd.fmtRD ?_) | (with_reducible refine Rd.meth ?_) | (with_reducible refine makeG ?_) | (with_reducible refine Rd.prop ?_) | (with_reducible refine Rd.js ?_) | (with_reducible refine Rd.js0 ?_) | (with_reducible refine Rd.par ?_) | (with_reducible refine Rd.star ?_) | (with_reducible refine lcR1 ?_) | (with_reducible refine lcR2 ?_) | (with_reducible refine Rd.fld ?_) | (with_reducible refine Rd.sfld ?_) | (with_reducible refine Rd.expr ?_) | (with_reducible refine L2.isNR ?_) | (with_reducible refine L2.methI ?_) | (with_reducible refine Rd.forZ ?_)
  | (with_reducible refine Rd.forEA ?_) | (with_reducible refine Rd.forR1 ?_) | (with_reducible refine Rd.forR2 ?_) | (with_reducible refine Rd.forL ?_) | (with_reducible refine Rd.forT ?_)
  | (with_reducible refine Rd.call ?_) | (with_reducible refine Rd.asgG ?_) | (with_reducible refine Rd.gNm ?_) | (with_reducible refine Rd.gSb ?_) | (with_reducible refine Rd.gC ?_) | (with_reducible refine Rd.gN ?_)
  | ((with_reducible refine' Rd.var ?hv ?_); (case hv => exact rfl)) | (with_reducible refine Rd.c ?_) | (with_reducible refine Rd.i0 ?_) | (with_reducible refine Rd.neg ?_)
  | ((with_reducible refine' Rd.iC ?hc ?_); (case hc => first | (show (0 : Int) < _; decide) | exact ⟨by decide, by decide⟩ | exact ⟨by decide, by decide, by decide⟩ | exact .inl ⟨by decide, by decide⟩ | exact .inr ⟨by decide, by decide⟩ | exact .inl ⟨by omega, by omega⟩ | (show (0 : Int) < _; omega) | exact ⟨by omega, by omega⟩))
  | ((with_reducible refine' Rd.eqS ?hc ?_); (case hc => rfl)) | ((with_reducible refine' Rd.neS ?hc ?_); (case hc => rfl)))
local macro_rules | `(tactic| walk_at "rd") => `(tactic| repeat walk_at "rd1")
structure CtorX (P : Program) (w : World) (K : PySem.W.Frag) (mg : Str → Option Value) (base : Heap) (x : Str) (C f : Addr) (fd : FuncData) (ps : List Str) (sp : Sp) : Prop where
  g : mg x = some (.ref C)
  mkr : Mk K C f
  ok : FnOk P w K mg base (L2.CX P w) 5 f fd ps sp
  b : Binds K fd ps []
structure MksX (P : Program) (w : World) (K : PySem.W.Frag) (mg : Str → Option Value) (base : Heap) (CT : Addr) (c : Cs) : Prop where
  pair : ∀ i, i < 4 → ∃ f fd, CtorX P w K mg base (pairName i) (c.pair i) f fd ["self", "left", "right"] (spPairX K CT c i)
  cho : ∃ f fd, CtorX P w K mg base "Choice" c.cho f fd ["self", "test", "chosen", "then", "other"] (spChoX K CT c)
theorem mkPairX {K : PySem.W.Frag} {CT : Addr} {c : Cs} {H : Hp} {Q : VK} {E : XK} {o : Nat} {f1 f2 : Fm} {v1 v2 : V} {l1 l2 : List V} (h1 : FmAt K c H f1 v1 l1) (h2 : FmAt K c H f2 v2 l2) (le1 : (Fm.pair o f1 f2).q.1 ≤ 40)
    (q : (Fm.pair o f1 f2).q.2 ≤ 8 → ∀ v H', New K c H H' (.pair o f1 f2) v (v :: (l1 ++ l2)) → Q v H') (dp : 8 < (Fm.pair o f1 f2).q.2 → Deep CT E H) : MakeG (c.pair o) (spPairX K CT c o) [] E [v1, v2] H Q := fun x dx nx nd ne =>
  ⟨x, dx, f1, f2, v1, v2, l1, l2, rfl, upd_same, h1.kp (kp_same (same_make nx nd ne)), h2.kp (kp_same (same_make nx nd ne)), le1, fun le2 H' b h z => ⟨rfl, q le2 (.ref x) H' ⟨same_but (same_make nx nd ne) nx b, h, ⟨x, rfl, nx⟩, z⟩⟩, fun gt => (dp gt).same (same_make nx nd ne)⟩
theorem mkChoX {K : PySem.W.Frag} {CT : Addr} {c : Cs} {H : Hp} {Q : VK} {E : XK} {a : Addr} {s : List Nat} {f1 f2 f3 : Fm} {v1 v2 v3 : V} {l1 l2 l3 : List V} (h1 : FmAt K c H f1 v1 l1) (h2 : FmAt K c H f2 v2 l2) (h3 : FmAt K c H f3 v3 l3) (hS : Sv K H a (s.map natV)) (asc : Asc s) (le1 : (Fm.cho f1 s f2 f3).q.1 ≤ 40)
    (q : (Fm.cho f1 s f2 f3).q.2 ≤ 8 → ∀ v H', New K c H H' (.cho f1 s f2 f3) v (v :: (l1 ++ (l2 ++ l3))) → Q v H') (dp : 8 < (Fm.cho f1 s f2 f3).q.2 → Deep CT E H) : MakeG c.cho (spChoX K CT c) [] E [v1, .ref a, v2, v3] H Q := fun x dx nx nd ne =>
  ⟨x, dx, a, s, f1, f2, f3, v1, v2, v3, l1, l2, l3, rfl, upd_same, h1.kp (kp_same (same_make nx nd ne)), h2.kp (kp_same (same_make nx nd ne)), h3.kp (kp_same (same_make nx nd ne)), hS.same (same_make nx nd ne), asc, le1,
    fun le2 H' b h z => ⟨rfl, q le2 (.ref x) H' ⟨same_but (same_make nx nd ne) nx b, h, ⟨x, rfl, nx⟩, z⟩⟩, fun gt => (dp gt).same (same_make nx nd ne)⟩
def spOfX (K : PySem.W.Frag) (CT : Addr) (c : Cs) : Option (Fin 4) → Sp
  | some o => fun vs H Q E => ∃ (v : V) (D : Addr) (f1 : Fm) (u1 : V) (l1 : List V) (f2 : Fm) (u2 : V) (l2 : List V), vs = [v, .ref D] ∧ H D = some (.lst [u1, u2]) ∧ FmAt K c H f1 u1 l1 ∧ FmAt K c H f2 u2 l2 ∧ (Fm.pair o.1 f1 f2).q.1 ≤ 40 ∧ ((Fm.pair o.1 f1 f2).q.2 ≤ 8 → ∀ u H' l', New K c H H' (.pair o.1 f1 f2) u l' → Q u H') ∧ (8 < (Fm.pair o.1 f1 f2).q.2 → Deep CT E H)
  | none => fun vs H Q E => ∃ (t : Fm) (s : List Nat) (a b : Fm) (v : V) (l : List V) (D : Addr) (f1 : Fm) (u1 : V) (l1 : List V) (f2 : Fm) (u2 : V) (l2 : List V) (f3 : Fm) (u3 : V) (l3 : List V), vs = [v, .ref D] ∧ FmAt K c H (.cho t s a b) v l ∧ Asc s ∧ H D = some (.lst [u1, u2, u3]) ∧
      FmAt K c H f1 u1 l1 ∧ FmAt K c H f2 u2 l2 ∧ FmAt K c H f3 u3 l3 ∧ (Fm.cho f1 s f2 f3).q.1 ≤ 40 ∧ ((Fm.cho f1 s f2 f3).q.2 ≤ 8 → ∀ u H' l', New K c H H' (.cho f1 s f2 f3) u l' → Q u H') ∧ (8 < (Fm.cho f1 s f2 f3).q.2 → Deep CT E H)
section
variable {P : Program} {w : World} {K : PySem.W.Frag} {mg : Str → Option Value} {base : Heap} {c : Cs} {CT f : Addr} {fd : FuncData}
theorem ok_ofPlusX (F : FunD K "_of_parts" "Plus._of_parts" (defArgs sOfPlus) (defBody sOfPlus) (defScope sOfPlus) [] [] f fd) (M : MksX P w K mg base CT c) : FnOk P w K mg base (L2.CX P w) 7 f fd ["self", "parts"] (spOfX K CT c (some ⟨0, by decide⟩)) := by
  obtain ⟨fp, fdp, cp⟩ := M.pair 0 (by decide)
  refine F.ok scOfPlus (fun vs H Q E h => ?_) (fun cdv A outer s H vs Q E hr h => ?_)
  · obtain ⟨v, D, f1, u1, l1, f2, u2, l2, rfl, _⟩ := h
    rfl
  · obtain ⟨v, D, f1, u1, l1, f2, u2, l2, rfl, hD, h1, h2, le1, q, dp⟩ := h
    have tk : Takes (cxOf (L2.CX P w) P w K mg base ["self", "parts"] "Plus._of_parts" (defScope sOfPlus) f cdv A outer s H E) (fun cls d _ H => E cls d H) := takes_of rfl rfl rfl rfl
    refine ⟨_, (pss_one (ps_ret (pe_make cp.mkr cp.ok hr rfl cp.g cp.b .nil (passes_call tk fun _ _ _ _ h => h) (pa_cons (pe_ix ix_list (pv 1) pe_int (fun _ _ => rfl)) (pa_cons (pe_ix ix_list (pv 1) pe_int (fun _ _ => rfl)) pa_nil))))), ?_⟩
    walk_at "rd"
    refine Rd.ixL (SqL.of hD) rfl ?_
    walk_at "rd"
    refine Rd.ixL (SqL.of hD) rfl ?_
    walk_at "rd"
    exact mkPairX h1 h2 le1 (fun le2 v H' z => q le2 v H' _ z) dp
theorem ok_ofLeastX (F : FunD K "_of_parts" "Least._of_parts" (defArgs sOfLeast) (defBody sOfLeast) (defScope sOfLeast) [] [] f fd) (M : MksX P w K mg base CT c) : FnOk P w K mg base (L2.CX P w) 7 f fd ["self", "parts"] (spOfX K CT c (some ⟨1, by decide⟩)) := by
  obtain ⟨fp, fdp, cp⟩ := M.pair 1 (by decide)
  refine F.ok scOfLeast (fun vs H Q E h => ?_) (fun cdv A outer s H vs Q E hr h => ?_)
  · obtain ⟨v, D, f1, u1, l1, f2, u2, l2, rfl, _⟩ := h
    rfl
  · obtain ⟨v, D, f1, u1, l1, f2, u2, l2, rfl, hD, h1, h2, le1, q, dp⟩ := h
    have tk : Takes (cxOf (L2.CX P w) P w K mg base ["self", "parts"] "Least._of_parts" (defScope sOfLeast) f cdv A outer s H E) (fun cls d _ H => E cls d H) := takes_of rfl rfl rfl rfl
    refine ⟨_, (pss_one (ps_ret (pe_make cp.mkr cp.ok hr rfl cp.g cp.b .nil (passes_call tk fun _ _ _ _ h => h) (pa_cons (pe_ix ix_list (pv 1) pe_int (fun _ _ => rfl)) (pa_cons (pe_ix ix_list (pv 1) pe_int (fun _ _ => rfl)) pa_nil))))), ?_⟩
    walk_at "rd"
    refine Rd.ixL (SqL.of hD) rfl ?_
    walk_at "rd"
    refine Rd.ixL (SqL.of hD) rfl ?_
    walk_at "rd"
    exact mkPairX h1 h2 le1 (fun le2 v H' z => q le2 v H' _ z) dp
theorem ok_ofMostX (F : FunD K "_of_parts" "Most._of_parts" (defArgs sOfMost) (defBody sOfMost) (defScope sOfMost) [] [] f fd) (M : MksX P w K mg base CT c) : FnOk P w K mg base (L2.CX P w) 7 f fd ["self", "parts"] (spOfX K CT c (some ⟨2, by decide⟩)) := by
  obtain ⟨fp, fdp, cp⟩ := M.pair 2 (by decide)
  refine F.ok scOfMost (fun vs H Q E h => ?_) (fun cdv A outer s H vs Q E hr h => ?_)
  · obtain ⟨v, D, f1, u1, l1, f2, u2, l2, rfl, _⟩ := h
    rfl
  · obtain ⟨v, D, f1, u1, l1, f2, u2, l2, rfl, hD, h1, h2, le1, q, dp⟩ := h
    have tk : Takes (cxOf (L2.CX P w) P w K mg base ["self", "parts"] "Most._of_parts" (defScope sOfMost) f cdv A outer s H E) (fun cls d _ H => E cls d H) := takes_of rfl rfl rfl rfl
    refine ⟨_, (pss_one (ps_ret (pe_make cp.mkr cp.ok hr rfl cp.g cp.b .nil (passes_call tk fun _ _ _ _ h => h) (pa_cons (pe_ix ix_list (pv 1) pe_int (fun _ _ => rfl)) (pa_cons (pe_ix ix_list (pv 1) pe_int (fun _ _ => rfl)) pa_nil))))), ?_⟩
    walk_at "rd"
    refine Rd.ixL (SqL.of hD) rfl ?_
    walk_at "rd"
    refine Rd.ixL (SqL.of hD) rfl ?_
    walk_at "rd"
    exact mkPairX h1 h2 le1 (fun le2 v H' z => q le2 v H' _ z) dp
theorem ok_ofSameX (F : FunD K "_of_parts" "Same._of_parts" (defArgs sOfSame) (defBody sOfSame) (defScope sOfSame) [] [] f fd) (M : MksX P w K mg base CT c) : FnOk P w K mg base (L2.CX P w) 7 f fd ["self", "parts"] (spOfX K CT c (some ⟨3, by decide⟩)) := by
  obtain ⟨fp, fdp, cp⟩ := M.pair 3 (by decide)
  refine F.ok scOfSame (fun vs H Q E h => ?_) (fun cdv A outer s H vs Q E hr h => ?_)
  · obtain ⟨v, D, f1, u1, l1, f2, u2, l2, rfl, _⟩ := h
    rfl
  · obtain ⟨v, D, f1, u1, l1, f2, u2, l2, rfl, hD, h1, h2, le1, q, dp⟩ := h
    have tk : Takes (cxOf (L2.CX P w) P w K mg base ["self", "parts"] "Same._of_parts" (defScope sOfSame) f cdv A outer s H E) (fun cls d _ H => E cls d H) := takes_of rfl rfl rfl rfl
    refine ⟨_, (pss_one (ps_ret (pe_make cp.mkr cp.ok hr rfl cp.g cp.b .nil (passes_call tk fun _ _ _ _ h => h) (pa_cons (pe_ix ix_list (pv 1) pe_int (fun _ _ => rfl)) (pa_cons (pe_ix ix_list (pv 1) pe_int (fun _ _ => rfl)) pa_nil))))), ?_⟩
    walk_at "rd"
    refine Rd.ixL (SqL.of hD) rfl ?_
    walk_at "rd"
    refine Rd.ixL (SqL.of hD) rfl ?_
    walk_at "rd"
    exact mkPairX h1 h2 le1 (fun le2 v H' z => q le2 v H' _ z) dp
theorem ok_ofChoiceX (F : FunD K "_of_parts" "Choice._of_parts" (defArgs sOfChoice) (defBody sOfChoice) (defScope sOfChoice) [] [] f fd) (T : Cl K c) (M : MksX P w K mg base CT c) : FnOk P w K mg base (L2.CX P w) 7 f fd ["self", "parts"] (spOfX K CT c none) := by
  obtain ⟨fp, fdp, cp⟩ := M.cho
  refine F.ok scOfChoice (fun vs H Q E h => ?_) (fun cdv A outer s0 H vs Q E hr h => ?_)
  · obtain ⟨t, s, a, b, v, l, D, f1, u1, l1, f2, u2, l2, f3, u3, l3, rfl, _⟩ := h
    rfl
  · obtain ⟨t, s, a, b, v, l, D, f1, u1, l1, f2, u2, l2, f3, u3, l3, rfl, hf, asc, hD, h1, h2, h3, le1, q, dp⟩ := h
    have tk : Takes (cxOf (L2.CX P w) P w K mg base ["self", "parts"] "Choice._of_parts" (defScope sOfChoice) f cdv A outer s0 H E) (fun cls d _ H => E cls d H) := takes_of rfl rfl rfl rfl
    refine ⟨_, (pss_one (ps_ret (pe_make cp.mkr cp.ok hr rfl cp.g cp.b .nil (passes_call tk fun _ _ _ _ h => h) (pa_cons (pe_ix ix_list (pv 1) pe_int (fun _ _ => rfl)) (pa_cons (pe_fld (pv 0) rfl) (pa_cons (pe_ix ix_list (pv 1) pe_int (fun _ _ => rfl)) (pa_cons (pe_ix ix_list (pv 1) pe_int (fun _ _ => rfl)) pa_nil))))))), ?_⟩
    obtain ⟨v1, m1, v2, m2, v3, m3, rfl, _, _, _, ad, dx, fs, g, p, tt, rfl, ha, b1, _, _, st, _, lc, _⟩ := id hf
    walk_at "rd"
    refine Rd.ixL (SqL.of hD) rfl ?_
    walk_at "rd"
    refine ⟨ad, _, dx, fs, _, rfl, ha, T.cho.cl, T.cho.no "chosen", lc, ?_⟩
    walk_at "rd"
    refine Rd.ixL (SqL.of hD) rfl ?_
    walk_at "rd"
    refine Rd.ixL (SqL.of hD) rfl ?_
    walk_at "rd"
    exact mkChoX h1 h2 h3 (.inr st) asc le1 (fun le2 v H' z => q le2 v H' _ z) dp
end
def FitsB (B D : Nat) (f : Fm) : Prop := f.q.1 ≤ B ∧ f.q.2 ≤ D
theorem FitsB.pair {B D o : Nat} {l r : Fm} (h : FitsB B D (.pair o l r)) : FitsB B D l ∧ FitsB B D r := by
  unfold FitsB Fm.q fmN fmD at h
  simp only [List.foldl] at h
  unfold FitsB
  split at h <;> refine ⟨⟨?_, ?_⟩, ?_, ?_⟩ <;> split at h <;> omega
theorem FitsB.cho {B D : Nat} {s : List Nat} {t a b : Fm} (h : FitsB B D (.cho t s a b)) : FitsB B D t ∧ FitsB B D a ∧ FitsB B D b := by
  unfold FitsB Fm.q fmN fmD at h
  simp only [List.foldl] at h
  unfold FitsB
  split at h <;> refine ⟨⟨?_, ?_⟩, ⟨?_, ?_⟩, ?_, ?_⟩ <;> split at h <;> split at h <;> omega
theorem PtsAt.fitsB {B D : Nat} {K : PySem.W.Frag} {c : Cs} {H : Hp} {f g : Fm} {v : V} {l : List V} {p : Addr} {ps : List Pt} {k : Nat} (h : PtsAt K c H f v l p ps) (h0 : k ≠ 0) (hk : k < f.q.1) (fit : FitsB B D (f.put k g)) {i : Nat} {x : Pt} (hx : ps[i]? = some x) : FitsB B D (newPart ps k g i x) := by
  have sh := h.shape
  cases f with
  | num n =>
    have hk : k < 1 := hk
    omega
  | ref w y =>
    have hk : k < 1 := hk
    omega
  | pair o a b =>
    rw [put_pair h0 hk] at fit
    obtain ⟨z1, z2⟩ := fit.pair
    match ps, sh, i, hx with
    | [p1, p2], sh, 0, hx =>
      simp only [partsOf, List.map_cons, List.map_nil, List.cons.injEq, and_true] at sh
      cases hx
      rw [← sh.1] at z1
      exact z1
    | [p1, p2], sh, 1, hx =>
      simp only [partsOf, List.map_cons, List.map_nil, List.cons.injEq, and_true] at sh
      cases hx
      rw [← sh.1, ← sh.2] at z2
      exact z2
    | [p1, p2], sh, i + 2, hx => simp at hx
    | [], sh, _, _ => simp [partsOf] at sh
    | [p1], sh, _, _ => simp [partsOf] at sh
    | p1 :: p2 :: p3 :: r, sh, _, _ => simp [partsOf] at sh
  | cho t s a b =>
    rw [put_cho h0 hk] at fit
    obtain ⟨z1, z2, z3⟩ := fit.cho
    match ps, sh, i, hx with
    | [p1, p2, p3], sh, 0, hx =>
      simp only [partsOf, List.map_cons, List.map_nil, List.cons.injEq, and_true] at sh
      cases hx
      rw [← sh.1] at z1
      exact z1
    | [p1, p2, p3], sh, 1, hx =>
      simp only [partsOf, List.map_cons, List.map_nil, List.cons.injEq, and_true] at sh
      cases hx
      rw [← sh.1, ← sh.2.1] at z2
      exact z2
    | [p1, p2, p3], sh, 2, hx =>
      simp only [partsOf, List.map_cons, List.map_nil, List.cons.injEq, and_true] at sh
      cases hx
      rw [← sh.1, ← sh.2.1, ← sh.2.2] at z3
      exact z3
    | [p1, p2, p3], sh, i + 3, hx => simp at hx
    | [], sh, _, _ => simp [partsOf] at sh
    | [p1], sh, _, _ => simp [partsOf] at sh
    | [p1, p2], sh, _, _ => simp [partsOf] at sh
    | p1 :: p2 :: p3 :: p4 :: r, sh, _, _ => simp [partsOf] at sh
def spWithX (K : PySem.W.Frag) (CT : Addr) (c : Cs) (n : Nat) : Sp := fun vs H Q E => ∃ (f : Fm) (v : V) (l : List V) (k : Nat) (g : Fm) (w : V) (m : List V), vs = [v, .int (k : Nat), w] ∧ FmAt K c H f v l ∧ Okf f ∧ f.ht ≤ n ∧ FmAt K c H g w m ∧ Fits g ∧ k < f.q.1 ∧ f.q.1 ≤ 1000 ∧ (f.put k g).q.1 ≤ 40 ∧ ((f.put k g).q.2 ≤ 8 → ∀ u H' l', Same H H' → FmAt K c H' (f.put k g) u l' → (u = w ∨ SqNon H' u) → Q u H') ∧ (8 < (f.put k g).q.2 → Deep CT E H)
section
variable {P : Program} {w : World} {K : PySem.W.Frag} {mg : Str → Option Value} {base : Heap} {c : Cs} {CT f fE fW fB fC : Addr} {fd fdE fdW fdB fdC : FuncData} {fO : Option (Fin 4) → Addr} {fdO : Option (Fin 4) → FuncData}
theorem ok_withX (F : FunD K "_with_node" "Formula._with_node" (defArgs sWith) (defBody sWith) (defScope sWith) [] [] f fd) (T : Cl K c) (m : ∀ g, Meth K (clsOf c g) "_with_node" f)
    (mO : ∀ i, Meth K (ofCls c i) "_of_parts" (fO i)) (GO : ∀ i, FnOk P w K mg base (L2.CX P w) 7 (fO i) (fdO i) ["self", "parts"] (spOfX K CT c i)) (bO : ∀ i, Binds K (fdO i) ["self", "parts"] []) : ∀ n, FnOk P w K mg base (L2.CX P w) (n + 8) f fd ["self", "number", "formula"] (spWithX K CT c n) := by
  have bF : Binds K fd ["self", "number", "formula"] [] := F.bindsN fun _ _ _ _ _ _ us hl => match us, hl with | [_, _, _], _ => rfl
  have nd := scWith.nd
  have clO : ∀ i, Cls K (ofCls c i) := fun i => match i with
    | none => T.cho.cl
    | some i => (T.pair i.1).cl
  intro n
  induction n with
  | zero =>
    refine F.ok scWith (fun vs H Q E h => ?_) (fun cdv A outer s H vs Q E hr h => ?_)
    · obtain ⟨g, v, l, k, g2, w2, m2, rfl, _⟩ := h
      rfl
    · obtain ⟨g, v, l, k, g2, w2, m2, rfl, _, _, ht, _⟩ := h
      cases g <;> simp [Fm.ht] at ht
  | succ n ih =>
    refine F.ok scWith (fun vs H Q E h => ?_) (fun cdv A outer s H vs Q E hr h => ?_)
    · obtain ⟨g, v, l, k, g2, w2, m2, rfl, _⟩ := h
      rfl
    · obtain ⟨g, v, l, k, g2, w2, m2, rfl, hf, og, ht, hg2, fg2, hk, few, le1, q, dp⟩ := h
      have tk : Takes (cxOf (L2.CX P w) P w K mg base ["self", "number", "formula", "parts", "first", "part", "inside"] "Formula._with_node" (defScope sWith) f cdv A outer s H E) (fun cls d _ H => E cls d H) := takes_of rfl rfl rfl rfl
      have r5 := hr.mono (show 7 ≤ n + 8 by omega)
      refine ⟨_, (pss_cons (ps_if (pt_cmpR op_eq (pv 1) pe_int (nomark _)) (pss_one (ps_ret (pv 2))) pss_nil)
        (pss_cons (ps_set (i := 3) nd rfl (Or.inl rfl) (pe_lst pa_nil)) (pss_cons (ps_set (i := 4) nd rfl (Or.inl rfl) pe_int)
        (pss_cons (ps_for (passes_of rfl) rfl (pi_tup (pe_fld (pv 0) rfl)) (pg_name (i := 5) nd rfl (Or.inl rfl))
          (pss_cons (ps_set (i := 6) nd rfl (Or.inl rfl) (pe_chain op_le op_lt (pv 4) (pv 1) (pe_op op_add (pv 4) (pe_fld (pv 5) rfl))))
          (pss_cons (ps_expr (pe_bm PySem.F.plainAttrs_list PySem.F.slot_list_append PySem.F.type_list_append mt_append (pv 3) (pa_cons
            (pe_ifExp (pt_val (pv 6)) (pe_methI (ι := Fm) (C := clsOf c) (f := fun _ => f) (fd := fun _ => fd) (sp := fun _ => spWithX K CT c n) (pv 5) (fun i => (T.at_ i).cl) m (fun _ => ih) hr (fun _ => bF) .nil (passes_call tk fun _ _ _ _ h => h) (pa_cons (pe_op op_sub (pv 1) (pv 4)) (pa_cons (pv 2) pa_nil))) (pv 5)) pa_nil)))
          (pss_one (ps_set (i := 4) nd rfl (Or.inl rfl) (pe_op op_add (pv 4) (pe_fld (pv 5) rfl)))))))
        (pss_one (ps_ret (pe_methI (ι := Option (Fin 4)) (C := ofCls c) (f := fO) (fd := fdO) (sp := spOfX K CT c) (pv 0) clO mO GO r5 bO .nil (passes_call tk fun _ _ _ _ h => h) (pa_cons (pv 3) pa_nil)))))))), ?_⟩
      obtain ⟨a, dx, fs, g1, p, r, rfl, el, ha, b1⟩ := id hf.obj
      obtain ⟨ps, pts⟩ := hf.parts og ha b1.pt
      walk_at "rd"
      refine Rd.ifB (fun z => ?_) (fun z => ?_)
      · have z : k = 0 := by have := V.int.inj (of_decide_eq_true z); omega
        subst z
        walk_at "rd"
        have e1 : g.put 0 g2 = g2 := by cases g <;> rfl
        rw [e1] at q
        exact q fg2.2 _ H _ (Same.refl _) hg2 (.inl rfl)
      have kz : k ≠ 0 := fun e => of_decide_eq_false z (congrArg V.int (by omega))
      walk_at "rd"
      refine ⟨Rd.small (by show 0 ≤ 100000; decide), fun D nD => ?_⟩
      have sD := same_new (o := HO.lst ([])) nD
      have tD := upd_same (H := H) (a := D) (o := HO.lst ([]))
      generalize upd H D (HO.lst ([])) = H1 at sD tD ⊢
      walk_at "rd"
      refine ⟨a, _, dx, fs, _, rfl, sD _ _ ha, (T.at_ g).cl, (T.at_ g).no "_parts", b1.pt, p, rfl, ⟨_, pts.at_.ext sD⟩, ?_⟩
      refine for_it walk_tup (fun i σ H' => (∃ b d, σ = [some (.ref a), some (.int (k : Nat)), some w2, some (.ref D), some (.int (fmN ((ps.take i).map (·.f.q)) : Nat)), b, d]) ∧ Same H H' ∧ ∃ us, H' D = some (.lst us) ∧ us.length = min i ps.length ∧
          (∀ (j : Nat) u, us[j]? = some u → NoD H' D u ∧ ∃ x m, ps[j]? = some x ∧ FmAt K c H' (newPart ps k g2 j x) u m)) ⟨⟨_, _, rfl⟩, sD, [], tD, by simp, fun j u e => by simp at e⟩ (fun i σ H' _ z => pts.at_.ext z.2.1) (fun i v σ H2 H3 hi hy z => ?_) (fun σ H' z => ?_)
      · obtain ⟨⟨b, d, rfl⟩, s2, us, d2, ul, at_⟩ := hy
        obtain ⟨rfl, ev⟩ := z
        rw [List.getElem?_map] at ev
        cases ep : ps[i]? with
        | none => rw [ep] at ev; cases ev
        | some x =>
        rw [ep] at ev
        have ev : x.v = v := Option.some.inj ev
        subst ev
        have mx : x ∈ ps := List.mem_of_getElem? ep
        have hi2 : i < ps.length := (List.getElem?_eq_some_iff.mp ep).1
        rw [Nat.min_eq_left (Nat.le_of_lt hi2)] at ul
        obtain ⟨hx, ox, hx2⟩ := pts.all x mx
        have hx3 := hx.kp (kp_same s2)
        obtain ⟨a', dx', fs', g1', p', r', ev', _, ha', b1'⟩ := id hx3.obj
        have eN : fmN ((ps.take (i + 1)).map (·.f.q)) = fmN ((ps.take i).map (·.f.q)) + x.f.q.1 := by
          have := fmN_take (ps := ps.map (·.f.q)) (i := i) (p := x.f.q) (by rw [List.getElem?_map, ep]; rfl)
          rw [← List.map_take, ← List.map_take] at this
          exact this
        have qx := q_pos x.f
        have pf := pts.few
        have lx := nodes_len hx
        have ll := nodes_len hf
        have le : x.l.length + 1 ≤ l.length := by
          rw [pts.nodes, List.length_cons]
          have := List.Sublist.length_le (List.sublist_flatten_of_mem (List.mem_map.mpr ⟨x, mx, rfl⟩ : x.l ∈ ps.map (·.l)))
          omega
        walk_at "rd"
        have nodx : NoD H3 D x.v := (hx.noD nD).same s2
        refine Rd.ifB (fun z1 => ?_) (fun z1 => ?_)
        · have z1 := of_decide_eq_true z1
          walk_at "rd"
          refine ⟨a', _, dx', fs', _, ev', ha', (T.at_ x.f).cl, (T.at_ x.f).no "_many", b1'.mn, ?_⟩
          walk_at "rd"
          refine ⟨.inl ⟨rfl, _, SqL.of d2⟩, ?_⟩
          walk_at "rd"
          refine Rd.ifB (fun z2 => ?_) (fun z2 => ?_)
          · have z2 := of_decide_eq_true z2
            have c1 : fmN ((ps.take i).map (·.f.q)) ≤ k ∧ k < fmN ((ps.take i).map (·.f.q)) + x.f.q.1 := ⟨by omega, by omega⟩
            have eP : newPart ps k g2 i x = x.f.put (k - fmN ((ps.take i).map (·.f.q))) g2 := if_pos c1
            have bd : FitsB (g.put k g2).q.1 (g.put k g2).q.2 (x.f.put (k - fmN ((ps.take i).map (·.f.q))) g2) := eP ▸ pts.fitsB kz hk ⟨Nat.le_refl _, Nat.le_refl _⟩ ep
            walk_at "rd"
            refine ⟨x.f, a', dx', fs', ev', ha', b1'.meth "_with_node", ?_⟩
            walk_at "rd"
            refine ⟨x.f, x.v, x.l, k - fmN ((ps.take i).map (·.f.q)), g2, w2, m2, by rw [List.append_nil, show ((k : Nat) : Int) - ((fmN ((ps.take i).map (·.f.q)) : Nat) : Int) = ((k - fmN ((ps.take i).map (·.f.q)) : Nat) : Int) by omega], hx3, ox, by omega, hg2.kp (kp_same s2), fg2, by omega, by omega, Nat.le_trans bd.1 le1, fun le2 u4 H4 m4 s4 f4 z4 => ?_, fun gt => (dp (Nat.lt_of_lt_of_le gt bd.2)).same s2⟩
            have f4 : FmAt K c H4 (newPart ps k g2 i x) u4 m4 := eP ▸ f4
            have nod4 : NoD H4 D u4 := z4.elim (fun e => by rw [e]; exact ((hg2.noD nD).same s2).same s4) fun z => z.noD
            walk_at "rd"
            have d4 := s4 _ _ d2
            refine ⟨D, us, _, rfl, rfl, d4, Rd.small' (by omega), ?_⟩
            have hl : us = [] ∨ ∃ a r C dx fs, us = .ref a :: r ∧ H4 a = some (.ins C dx fs) ∧ fs.lookup ("_sequence" : Str) ≠ some (.ref D) := by
              cases us with
              | nil => exact .inl rfl
              | cons u0 r0 =>
                obtain ⟨⟨a0, C0, dx0, fs0, rfl, h0, n0⟩, _⟩ := at_ 0 u0 rfl
                exact .inr ⟨a0, r0, C0, dx0, fs0, rfl, s4 _ _ h0, n0⟩
            walk_at "rd"
            refine ⟨a', _, dx', fs', _, ev', ins_list d4 (s4 _ _ ha'), (T.at_ x.f).cl, (T.at_ x.f).no "_many", b1'.mn, ?_⟩
            walk_at "rd"
            have sE : Same H (upd H4 D (.lst (us ++ [u4]))) := fun b o e => by rw [upd_ne (ne_of_none e nD)]; exact s4 _ _ (s2 _ _ e)
            refine ⟨⟨_, _, by rw [eN, Int.natCast_add]; rfl⟩, sE, us ++ [u4], upd_same, by rw [List.length_append, ul, Nat.min_eq_left (Nat.succ_le_of_lt hi2)]; rfl, fun j u e => ?_⟩
            by_cases hj : j < us.length
            · rw [List.getElem?_append_left hj] at e
              obtain ⟨⟨a0, C0, dx0, fs0, e0, h0, n0⟩, x0, m0, ex0, f0⟩ := at_ j u e
              exact ⟨⟨a0, C0, dx0, fs0, e0, ins_list d4 (s4 _ _ h0), n0⟩, x0, m0, ex0, (f0.kp (kp_same s4)).list d4 hl⟩
            · rw [List.getElem?_append_right (by omega)] at e
              have ej : j - us.length = 0 := by
                cases q : j - us.length with
                | zero => rfl
                | succ y => rw [q] at e; simp at e
              have ej2 : j = i := by omega
              subst ej2
              rw [ej] at e
              cases e
              obtain ⟨a0, C0, dx0, fs0, e0, h0, n0⟩ := nod4
              exact ⟨⟨a0, C0, dx0, fs0, e0, ins_list d4 h0, n0⟩, x, _, ep, f4.list d4 hl⟩
          · have z2 := of_decide_eq_false z2
            have eP : newPart ps k g2 i x = x.f := if_neg (fun c => z2 (by omega))
            walk_at "rd"
            have d4 := (Same.refl H3) _ _ d2
            refine ⟨D, us, _, rfl, rfl, d4, Rd.small' (by omega), ?_⟩
            have hl : us = [] ∨ ∃ a r C dx fs, us = .ref a :: r ∧ H3 a = some (.ins C dx fs) ∧ fs.lookup ("_sequence" : Str) ≠ some (.ref D) := by
              cases us with
              | nil => exact .inl rfl
              | cons u0 r0 =>
                obtain ⟨⟨a0, C0, dx0, fs0, rfl, h0, n0⟩, _⟩ := at_ 0 u0 rfl
                exact .inr ⟨a0, r0, C0, dx0, fs0, rfl, (Same.refl H3) _ _ h0, n0⟩
            walk_at "rd"
            refine ⟨a', _, dx', fs', _, ev', ins_list d4 ((Same.refl H3) _ _ ha'), (T.at_ x.f).cl, (T.at_ x.f).no "_many", b1'.mn, ?_⟩
            walk_at "rd"
            have sE : Same H (upd H3 D (.lst (us ++ [x.v]))) := fun b o e => by rw [upd_ne (ne_of_none e nD)]; exact (Same.refl H3) _ _ (s2 _ _ e)
            refine ⟨⟨_, _, by rw [eN, Int.natCast_add]; rfl⟩, sE, us ++ [x.v], upd_same, by rw [List.length_append, ul, Nat.min_eq_left (Nat.succ_le_of_lt hi2)]; rfl, fun j u e => ?_⟩
            by_cases hj : j < us.length
            · rw [List.getElem?_append_left hj] at e
              obtain ⟨⟨a0, C0, dx0, fs0, e0, h0, n0⟩, x0, m0, ex0, f0⟩ := at_ j u e
              exact ⟨⟨a0, C0, dx0, fs0, e0, ins_list d4 ((Same.refl H3) _ _ h0), n0⟩, x0, m0, ex0, (f0.kp (kp_same (Same.refl H3))).list d4 hl⟩
            · rw [List.getElem?_append_right (by omega)] at e
              have ej : j - us.length = 0 := by
                cases q : j - us.length with
                | zero => rfl
                | succ y => rw [q] at e; simp at e
              have ej2 : j = i := by omega
              subst ej2
              rw [ej] at e
              cases e
              obtain ⟨a0, C0, dx0, fs0, e0, h0, n0⟩ := nodx
              exact ⟨⟨a0, C0, dx0, fs0, e0, ins_list d4 h0, n0⟩, x, _, ep, (eP ▸ hx3).list d4 hl⟩
        · have z1 := of_decide_eq_false z1
          have eP : newPart ps k g2 i x = x.f := if_neg (fun c => z1 (by omega))
          walk_at "rd"
          refine ⟨.inl ⟨rfl, _, SqL.of d2⟩, ?_⟩
          walk_at "rd"
          refine iteF ?_
          walk_at "rd"
          have d4 := (Same.refl H3) _ _ d2
          refine ⟨D, us, _, rfl, rfl, d4, Rd.small' (by omega), ?_⟩
          have hl : us = [] ∨ ∃ a r C dx fs, us = .ref a :: r ∧ H3 a = some (.ins C dx fs) ∧ fs.lookup ("_sequence" : Str) ≠ some (.ref D) := by
            cases us with
            | nil => exact .inl rfl
            | cons u0 r0 =>
              obtain ⟨⟨a0, C0, dx0, fs0, rfl, h0, n0⟩, _⟩ := at_ 0 u0 rfl
              exact .inr ⟨a0, r0, C0, dx0, fs0, rfl, (Same.refl H3) _ _ h0, n0⟩
          walk_at "rd"
          refine ⟨a', _, dx', fs', _, ev', ins_list d4 ((Same.refl H3) _ _ ha'), (T.at_ x.f).cl, (T.at_ x.f).no "_many", b1'.mn, ?_⟩
          walk_at "rd"
          have sE : Same H (upd H3 D (.lst (us ++ [x.v]))) := fun b o e => by rw [upd_ne (ne_of_none e nD)]; exact (Same.refl H3) _ _ (s2 _ _ e)
          refine ⟨⟨_, _, by rw [eN, Int.natCast_add]; rfl⟩, sE, us ++ [x.v], upd_same, by rw [List.length_append, ul, Nat.min_eq_left (Nat.succ_le_of_lt hi2)]; rfl, fun j u e => ?_⟩
          by_cases hj : j < us.length
          · rw [List.getElem?_append_left hj] at e
            obtain ⟨⟨a0, C0, dx0, fs0, e0, h0, n0⟩, x0, m0, ex0, f0⟩ := at_ j u e
            exact ⟨⟨a0, C0, dx0, fs0, e0, ins_list d4 ((Same.refl H3) _ _ h0), n0⟩, x0, m0, ex0, (f0.kp (kp_same (Same.refl H3))).list d4 hl⟩
          · rw [List.getElem?_append_right (by omega)] at e
            have ej : j - us.length = 0 := by
              cases q : j - us.length with
              | zero => rfl
              | succ y => rw [q] at e; simp at e
            have ej2 : j = i := by omega
            subst ej2
            rw [ej] at e
            cases e
            obtain ⟨a0, C0, dx0, fs0, e0, h0, n0⟩ := nodx
            exact ⟨⟨a0, C0, dx0, fs0, e0, ins_list d4 h0, n0⟩, x, _, ep, (eP ▸ hx3).list d4 hl⟩
      · obtain ⟨⟨b, d, rfl⟩, s2, us, d2, ul, at_⟩ := z
        rw [List.length_map, Nat.min_self] at ul
        have sh := pts.shape
        cases g with
        | num y =>
          have hk : k < 1 := hk
          omega
        | ref y z =>
          have hk : k < 1 := hk
          omega
        | pair o f1 f2 =>
          match ps, us, sh, ul with
          | [p1, p2], [u1, u2], sh, _ =>
            simp only [partsOf, List.map_cons, List.map_nil, List.cons.injEq, and_true] at sh
            obtain ⟨rfl, rfl⟩ := sh
            obtain ⟨_, x1, m1, ex1, y1⟩ := at_ 0 u1 rfl
            obtain ⟨_, x2, m2, ex2, y2⟩ := at_ 1 u2 rfl
            cases ex1
            cases ex2
            have e := put_pair (g := g2) kz hk
            rw [e] at q le1 dp
            walk_at "rd"
            refine ⟨some ⟨o, og.1⟩, a, dx, fs, rfl, s2 _ _ ha, b1.meth "_of_parts", ?_⟩
            walk_at "rd"
            exact ⟨.ref a, D, _, u1, m1, _, u2, _, rfl, d2, y1, y2, le1, fun le2 u H2 l2 z => q le2 u H2 l2 (s2.trans z.same) z.at_ (.inr z.sq), fun gt => (dp gt).same s2⟩
        | cho t sl f1 f2 =>
          match ps, us, sh, ul with
          | [p1, p2, p3], [u1, u2, u3], sh, _ =>
            simp only [partsOf, List.map_cons, List.map_nil, List.cons.injEq, and_true] at sh
            obtain ⟨rfl, rfl, rfl⟩ := sh
            obtain ⟨_, x1, m1, ex1, y1⟩ := at_ 0 u1 rfl
            obtain ⟨_, x2, m2, ex2, y2⟩ := at_ 1 u2 rfl
            obtain ⟨_, x3, m3, ex3, y3⟩ := at_ 2 u3 rfl
            cases ex1
            cases ex2
            cases ex3
            have e := put_cho (g := g2) kz hk
            rw [e] at q le1 dp
            walk_at "rd"
            refine ⟨none, a, dx, fs, rfl, s2 _ _ ha, b1.meth "_of_parts", ?_⟩
            walk_at "rd"
            exact ⟨_, sl, _, _, .ref a, _, D, _, u1, m1, _, u2, _, _, u3, _, rfl, hf.kp (kp_same s2), og.1, d2, y1, y2, y3, le1, fun le2 u H2 l2 z => q le2 u H2 l2 (s2.trans z.same) z.at_ (.inr z.sq), fun gt => (dp gt).same s2⟩
/-- the same, where nodes may be kept on the way -/
def DeepK (K : PySem.W.Frag) (c : Cs) (CT : Addr) (E : XK) (H : Hp) : Prop := ∀ d H', Kf K c H H' → H d = none → H' d = some (.xd [("limit", .int 8), ("what", .str "depth")]) → E (.ref CT) (some d) H'
theorem DeepK.deep {K : PySem.W.Frag} {c : Cs} {CT : Addr} {E : XK} {H H1 : Hp} (h : DeepK K c CT E H) (k : Kf K c H H1) : Deep CT E H1 := fun d H' s n e => h d H' (k.trans (kf_same s)) (k.free n) e
def spPutX (K : PySem.W.Frag) (CT : Addr) (c : Cs) (n : Nat) : Sp := fun vs H Q E => ∃ (f : Fm) (v : V) (l : List V) (k : Nat) (g : Fm) (w : V) (m : List V), vs = [v, .int (k : Nat), w] ∧ FmAt K c H f v l ∧ Okf f ∧ f.ht ≤ n ∧ FmAt K c H g w m ∧ Okf g ∧ Fits g ∧ k < f.q.1 ∧ f.q.1 ≤ 1000 ∧ (f.put k g).q.1 ≤ 40 ∧ ((f.put k g).q.2 ≤ 8 → ∀ u H' l', Kf K c H H' → FmAt K c H' (f.put k g) u l' → Q u H') ∧ (8 < (f.put k g).q.2 → DeepK K c CT E H)
theorem ok_putX {n : Nat} (F : FunD K "put" "Formula.put" (defArgs sPut) (defBody sPut) (defScope sPut) [] [] f fd) (T : Cl K c) (G : Gf mg)
    (FB : FnP K "is_between" sBetween fB fdB) (GB : FnOk P w K mg base CX0 1 fB fdB ["value", "low", "high"] spBetween) (gB : mg "is_between" = some (.ref fB))
    (FC : FnP K "_check_formula" sCheckF fC fdC) (GC : FnOk P w K mg base CX0 1 fC fdC ["value"] (spCheckF K c)) (gC : mg "_check_formula" = some (.ref fC))
    (mE : ∀ g, Meth K (clsOf c g) "_every" fE) (GE : FnOk P w K mg base CX0 (n + 1) fE fdE ["self"] (spEvery K c n)) (bE : Binds K fdE ["self"] [])
    (mW : ∀ g, Meth K (clsOf c g) "_with_node" fW) (GW : FnOk P w K mg base (L2.CX P w) (n + 8) fW fdW ["self", "number", "formula"] (spWithX K CT c n)) (bW : Binds K fdW ["self", "number", "formula"] []) :
    FnOk P w K mg base (L2.CX P w) (n + 9) f fd ["self", "number", "formula"] (spPutX K CT c n) := by
  have bB : Binds K fdB ["value", "low", "high"] [] := FB.bindsN fun _ _ _ _ _ _ us hl => match us, hl with | [_, _, _], _ => rfl
  have bC : Binds K fdC ["value"] [] := FC.bindsN fun _ _ _ _ _ _ us hl => match us, hl with | [_], _ => rfl
  obtain ⟨t1, gN⟩ := G.mn
  have nd := scPut.nd
  refine F.ok scPut (fun vs H Q E h => ?_) (fun cdv A outer s H vs Q E hr h => ?_)
  · obtain ⟨g, v, l, k, g2, w2, m2, rfl, _⟩ := h
    rfl
  · obtain ⟨g, v, l, k, g2, w2, m2, rfl, hf, og, ht, hg2, og2, fg2, hk, few, le1, q, dp⟩ := h
    have tk : Takes (cxOf (L2.CX P w) P w K mg base ["self", "number", "formula", "old"] "Formula.put" (defScope sPut) f cdv A outer s H E) (fun cls d _ H => E cls d H) := takes_of rfl rfl rfl rfl
    have r1 := hr.mono (show 1 ≤ n + 8 by omega)
    have rE := hr.mono (show n + 1 ≤ n + 8 by omega)
    refine ⟨_, (pss_inj (pss_cons (ps_if (pt_not (pt_val (pe_call GB r1 rfl gB FB.kp bB .nil pass0 (pa_cons (pv 1) (pa_cons pe_int (pa_cons (pe_op op_sub (pe_fld (pv 0) rfl) pe_int) pa_nil)))))) (pss_one ps_never) pss_nil)
      (pss_cons (ps_expr (pe_call GC r1 rfl gC FC.kp bC .nil pass0 (pa_cons (pv 2) pa_nil)))
      (pss_cons (ps_set (i := 3) nd rfl (Or.inl rfl) (pe_ix ix_list (pe_methI0 (ι := Fm) (C := clsOf c) (f := fun _ => fE) (fd := fun _ => fdE) (sp := fun _ => spEvery K c n) (pv 0) (fun i => (T.at_ i).cl) mE (fun _ => GE) rE (fun _ => bE) .nil pass0) (pv 1) (fun _ _ => rfl)))
      (pss_cons (ps_if (pt_cmpR op_gt (pe_op op_add (pe_op op_sub (pe_fld (pv 0) rfl) (pe_fld (pv 3) rfl)) (pe_fld (pv 2) rfl)) (pe_glob rfl gN (v := .int 40) ⟨_, rfl⟩) (nomark _)) (pss_one ps_never) pss_nil)
      (pss_one (ps_ret (pe_methI (ι := Fm) (C := clsOf c) (f := fun _ => fW) (fd := fun _ => fdW) (sp := fun _ => spWithX K CT c n) (pv 0) (fun i => (T.at_ i).cl) mW (fun _ => GW) hr (fun _ => bW) .nil (passes_call tk fun _ _ _ _ h => h) (pa_cons (pv 1) (pa_cons (pv 2) pa_nil)))))))))), ?_⟩
    intro inj
    obtain ⟨a, dx, fs, g1, p, r, rfl, el, ha, b1⟩ := id hf.obj
    walk_at "rd"
    refine ⟨a, _, dx, fs, _, rfl, ha, (T.at_ g).cl, (T.at_ g).no "_many", b1.mn, ?_⟩
    walk_at "rd"
    refine ⟨_, _, _, rfl, ?_⟩
    rw [decide_eq_true (show (0 : Int) ≤ (k : Nat) by omega), decide_eq_true (show ((k : Nat) : Int) ≤ ((g.q.1 : Nat) : Int) - 1 by omega)]
    walk_at "rd"
    refine iteF ?_
    walk_at "rd"
    refine ⟨g2, w2, m2, rfl, hg2, ?_⟩
    walk_at "rd"
    refine ⟨g, a, dx, fs, rfl, ha, b1.meth "_every", ?_⟩
    walk_at "rd"
    refine ⟨g, .ref a, l, rfl, hf, og, ht, few, fun H1 q1 k1 h1 => ?_⟩
    walk_at "rd"
    have kf1 := kf_seq inj k1
    obtain ⟨u, mu, eu, hu⟩ := hf.at_ hk
    refine Rd.ixL' (SqL.of h1) (by rw [Rd.at_nat (by rw [nodes_len hf]; exact hk)]; exact eu) ?_
    walk_at "rd"
    have hf1 := kf1.fm og hf
    have hu1 := kf1.fm (at_ok g k og) hu
    have hw1 := kf1.fm og2 hg2
    obtain ⟨a1, dx1, fs1, g11, p1, r1, e1, _, ha1, b11⟩ := id hf1.obj
    cases e1
    obtain ⟨a2, dx2, fs2, g12, p2, r2, rfl, _, ha2, b12⟩ := id hu1.obj
    obtain ⟨a3, dx3, fs3, g13, p3, r3, rfl, _, ha3, b13⟩ := id hw1.obj
    refine ⟨a, _, dx1, fs1, _, rfl, ha1, (T.at_ g).cl, (T.at_ g).no "_many", b11.mn, ?_⟩
    walk_at "rd"
    refine ⟨a2, _, dx2, fs2, _, rfl, ha2, (T.at_ _).cl, (T.at_ _).no "_many", b12.mn, ?_⟩
    walk_at "rd"
    refine ⟨a3, _, dx3, fs3, _, rfl, ha3, (T.at_ _).cl, (T.at_ _).no "_many", b13.mn, ?_⟩
    walk_at "rd"
    have pq := put_q g k g2 hk
    have f40 := le1
    refine Rd.ifB (fun z => ?_) (fun _ => ?_)
    · have := of_decide_eq_true z
      omega
    walk_at "rd"
    refine ⟨g, a, dx1, fs1, rfl, ha1, b11.meth "_with_node", ?_⟩
    walk_at "rd"
    exact ⟨g, .ref a, l, k, g2, _, _, rfl, hf1, og, ht, hw1, fg2, hk, few, le1, fun le2 u H2 l2 s2 h2 _ => q le2 u H2 l2 (kf1.trans (kf_same s2)) h2, fun gt => (dp gt).deep kf1⟩
end
end K12

namespace L2
open PySem PySem.Spec PyProof.Rows
/-- isinstance(e, c), e caught, with attributes of its own -/
def rIsC (K : PySem.W.Frag) (a : Addr) (cls : Value) (d : Option Addr) : List V → Hp → VK → Prop := fun xs H Q => ∃ (C dd : Addr) (fs : List (Str × V)) (c : V) (cv : Value) (b : Bool), xs = [.ref a, c] ∧ cls = .ref C ∧ d = some dd ∧ H dd = some (.xd fs) ∧ XC K C ∧ (∀ u, RelV c u → u = cv) ∧ PySem.W.kitOne K (.ref C) cv = some b ∧ Q (.bl b) H
theorem call_isC {X : Cx} {a : Addr} {oe : Obj} {cls : Value} {d : Option Addr} {pn : List (Addr × Obj)} (hz : Zc cls d oe) (hf : ∃ vs, oe.data = .fields vs) : CallR (X.suite a ((a, oe) :: pn)) (.builtin "isinstance") (rIsC X.K a cls d) := by
  intro pins s σ H xs us Q I r ⟨C, dd, fs, c, cv, b, ex, ec, ed, hd, T, hcv, e, q⟩
  subst ex ec ed
  obtain ⟨_, _, rfl, rx, rt⟩ : ∃ u1 u2, us = [u1, u2] ∧ RelV (V.ref a) u1 ∧ RelV c u2 := by
    cases r with
    | cons r1 r2 => cases r2 with
      | cons r2 r3 => cases r3; exact ⟨_, _, rfl, r1, r2⟩
  cases rx
  obtain rfl := hcv _ rt
  obtain ⟨hget, _⟩ := I.pin (a, oe) (List.mem_append.mpr (.inl List.mem_cons_self))
  have known : (PySem.W.clsIn X.K C).isSome = true := by
    obtain ⟨cd, w, _⟩ := PySem.W.any_some T.hd
    rw [w]; rfl
  obtain ⟨vs, hv⟩ := hf
  obtain ⟨mA, ns, _⟩ := I.hok dd _ hd
  obtain ⟨od, eo, _⟩ := lookIn_ns ns
  have J : PySem.W.InstAt s.heap a oe C (some od) := by
    obtain ⟨oc, od', oda, osl⟩ := oe
    obtain ⟨h1, h2⟩ := hz
    dsimp only at h1 h2 hv
    subst h1 h2 hv
    exact ⟨hget, rfl, rfl, eo⟩
  exact PySem.W.kia_one (PySem.W.kitx_exc known T.ga T.gg T.exC T.ha T.hn T.ht T.hm) I.kIn J e (fun z => nomatch z) fun n => ⟨.bl b, H, I.kept (t' := n) fun _ _ z => z, rfl, q⟩
theorem rd_xdf {K : PySem.W.Frag} {σ : L2.St} {H : Hp} {C a dd : Addr} {i : Nat} {f : Str} {v : V} {Q : VK} {fs : List (Str × V)} (hv : σ[i]? = some (some (.ref a))) (T : XC K C) (hno : PySem.W.findIn K (.ref C) f = some none) (hd : H dd = some (.xd fs)) (hl : fs.lookup f = some v) (q : Q v H) : tXdf K a (.ref C) (some dd) (tVar i) f σ H Q :=
  ⟨_, hv, rfl, C, dd, fs, v, rfl, T, hno, rfl, hd, hl, q⟩
/-- what a callee may let out is taken, the slots' number known -/
theorem passesAt {X : Cx} {W : WX} {E : XK} (tk : Takes X W) (hW : ∀ cls d (σ : L2.St) H, σ.length = X.N.length → E cls d H → W cls d σ H) : Passes (CX X.prog X.w) X E :=
  fun _ σ _ _ e s' I c => tk e s' (XE.of_call I (fun cls d H' h => hW cls d σ H' I.len h) c)
end L2
namespace K12
open PySem PySem.Spec PyProof.Rows L2
local macro_rules | `(tactic| walk_at "rd1") => `(tactic| first
  | (with_reducible refine Rd.seq ?_) | (with_reducible refine Rd.asg ?_) | (with_reducible refine Rd.ret ?_) | (with_reducible refine Rd.nxt ?_) | (with_reducible refine Rd.ifS ?_)
  | (with_reducible refine Rd.op ?_) | (with_reducible refine Rd.un ?_) | (with_reducible refine Rd.cb ?_) | (with_reducible refine Rd.cons ?_) | (with_reducible refine Rd.nil ?_) | (with_reducible refine Rd.ifx ?_)
  | (with_reducible refine Rd.test ?_) | (with_reducible refine Rd.testB ?_) | (with_reducible refine Rd.notT ?_) | (with_reducible refine Rd.isB ?_) | (with_reducible refine Rd.lst ?_) | (with_reducible refine Rd.tup ?_)
  | (with_reducible refine Rd.andV ?_) | (with_reducible refine Rd.orV ?_) | (with_reducible refine Rd.notV ?_) | (with_reducible refine Rd.andT ?_) | (with_reducible refine Rd.orT ?_) | (with_reducible refine Rd.chain ?_)
  | (with_reducible refine Rd.m0 ?_) | (with_reducible refine Rd.m1 ?_) | (with_reducible refine Rd.bm0 ?_) | (with_reducible refine Rd.bm ?_) | (with_reducible refine Rd.sl ?_) | (with_reducible refine Rd.part ?_) | (with_reducible refine Rd.part0 ?_) | (with_reducible refine Rd.isI ?_)
  | (with_reducible refine Rd.fmt ?_) | (with_reducible refine Rd.fmtRD ?_) | (with_reducible refine Rd.meth ?_) | (with_reducible refine makeG ?_) | (with_reducible refine Rd.prop ?_) | (with_reducible refine Rd.js ?_) | (with_reducible refine Rd.js0 ?_) | (with_reducible refine Rd.par ?_) | (with_reducible refine Rd.star ?_) | (with_reducible refine lcR1 ?_) | (with_reducible refine lcR2 ?_) | (with_reducible refine Rd.fld ?_) | (with_reducible refine Rd.sfld ?_) | (with_reducible refine Rd.expr ?_) | (with_reducible refine L2.isNR ?_) | (with_reducible refine L2.methI ?_) | (with_reducible refine Rd.forZ ?_)
  | (with_reducible refine Rd.forEA ?_) | (with_reducible refine Rd.forR1 ?_) | (with_reducible refine Rd.forR2 ?_) | (with_reducible refine Rd.forL ?_) | (with_reducible refine Rd.forT ?_)
  | (with_reducible refine Rd.call ?_) | (with_reducible refine Rd.asgG ?_) | (with_reducible refine Rd.gNm ?_) | (with_reducible refine Rd.gSb ?_) | (with_reducible refine Rd.gC ?_) | (with_reducible refine Rd.gN ?_)
  | ((with_reducible refine' Rd.var ?hv ?_); (case hv => exact rfl)) | (with_reducible refine Rd.c ?_) | (with_reducible refine Rd.i0 ?_) | (with_reducible refine Rd.neg ?_)
  | ((with_reducible refine' Rd.iC ?hc ?_); (case hc => first | (show (0 : Int) < _; decide) | exact ⟨by decide, by decide⟩ | exact ⟨by decide, by decide, by decide⟩ | exact .inl ⟨by decide, by decide⟩ | exact .inr ⟨by decide, by decide⟩ | exact .inl ⟨by omega, by omega⟩ | (show (0 : Int) < _; omega) | exact ⟨by omega, by omega⟩))
  | ((with_reducible refine' Rd.eqS ?hc ?_); (case hc => rfl)) | ((with_reducible refine' Rd.neS ?hc ?_); (case hc => rfl)))
local macro_rules | `(tactic| walk_at "rd") => `(tactic| repeat walk_at "rd1")
abbrev sPutL : Stmt := topA i_law_put
def spPutL (K : PySem.W.Frag) (c : Cs) (n : Nat) : Sp := fun vs H Q _ => ∃ (f : Fm) (v : V) (l : List V) (k : Nat) (g : Fm) (x : V) (m : List V) (b : Bool), vs = [v, .int (k : Nat), x, .bl b] ∧ FmAt K c H f v l ∧ Okf f ∧ f.ht ≤ n ∧ FmAt K c H g x m ∧ Okf g ∧ Fits g ∧ k < f.q.1 ∧ f.q.1 ≤ 1000 ∧ (f.put k g).q.1 ≤ 40 ∧
  ((f.put k g).q.2 ≤ 8 → ∀ p u l' H', Kf K c H H' → H p = none → H' p = some (.lst [.str "made", u]) → FmAt K c H' (f.put k g) u l' → Q (.ref p) H') ∧ (8 < (f.put k g).q.2 → ∀ p H', Kf K c H H' → H p = none → H' p = some (.lst [.str "depth", .int 8]) → Q (.ref p) H')
section
variable {P : Program} {w : World} {K : PySem.W.Frag} {mg : Str → Option Value} {base : Heap} {c : Cs} {f fP CT CL fT : Addr} {fd fdP : FuncData}
abbrev nmsPu : List Str := ["_law_made", "_law_at", "_law_other", "_law_is_named", "_law_told", "e"]
abbrev psPu : List Str := ["_law_made", "_law_at", "_law_other", "_law_is_named"]
theorem scPu : FnScope nmsPu psPu (defScope sPutL) := ⟨rfl, rfl, rfl, by decide +kernel, rfl, by decide +kernel, by decide +kernel⟩
theorem ok_putL {n : Nat} (F : FnP K "_law_put" sPutL f fd) (T : Cl K c) (Y : TmG K mg CT fT) (mP : ∀ g, Meth K (clsOf c g) "put" fP) (FP : FunD K "put" "Formula.put" (defArgs sPut) (defBody sPut) (defScope sPut) [] [] fP fdP) (GP : FnOk P w K mg base (L2.CX P w) (n + 9) fP fdP ["self", "number", "formula"] (spPutX K CT c n))
    (gL : mg "LimitError" = some (.ref CL)) (ex1 : PySem.W.exmOne K (.ref CT) (.ref CT) = some true) (ki : PySem.W.kitOne K (.ref CT) (.ref CL) = some true) (gIs : mg "isinstance" = none) : FnOk P w K mg base CX0 (n + 10) f fd psPu (spPutL K c n) := by
  have bP : Binds K fdP ["self", "number", "formula"] [] := FP.bindsN fun _ _ _ _ _ _ us hl => match us, hl with | [_, _, _], _ => rfl
  have kP : KBn K fdP ["self", "number", "formula"] 1 ["formula", "number"] (fun us ws => us ++ ws.reverse) (fun vs zs => vs ++ zs.reverse) := FP.kbN 1 ["formula", "number"] (fun us ws => us ++ ws.reverse) (fun a b => a.append b.reverse) fun _ _ _ _ _ _ us ws h1 h2 => match us, ws, h1, h2 with | [_], [_, _], _, _ => rfl
  have nd := scPu.nd
  refine F.ok scPu (fun vs H Q E h => ?_) (fun cdv A outer s H vs Q E hr h => ?_)
  · obtain ⟨g, v, l, k, g2, x, m, b, rfl, _⟩ := h
    rfl
  · obtain ⟨g, v, l, k, g2, x, m, b, rfl, hf, og, ht, hx, o2, fit2, hk, few, le1, q1, q2⟩ := h
    refine ⟨_, pss_cons (ps_set (i := 4) nd rfl (Or.inl rfl) (pe_lst (pa_cons pe_str (pa_cons pe_non pa_nil))))
      (pss_cons (ps_try_as (i := 5) rfl rfl nd rfl rfl ⟨rfl, by decide, .inl Y.g⟩ takes0
        (fun W pn xe tk _ => pss_one (ps_set (i := 4) nd rfl (Or.inl rfl) (pe_lst (pa_cons pe_str (pa_cons (pe_ifExp (pt_val (pv 3))
          (pe_methK0 (ι := Fm) (C := clsOf c) (f := fun _ => fP) (fd := fun _ => fdP) (sp := fun _ => spPutX K CT c n) (E := fun cls d H => ∀ σ : L2.St, σ.length = 6 → W cls d σ H) (pv 0) (fun i => (T.at_ i).cl) mP (fun _ => GP) hr (fun _ => kP) (passesAt tk fun cls d σ H e h => h σ e) (pk_cons (pv 2) (pk_cons (pv 1) pk_nil)))
          (pe_methI (ι := Fm) (C := clsOf c) (f := fun _ => fP) (fd := fun _ => fdP) (sp := fun _ => spPutX K CT c n) (E := fun cls d H => ∀ σ : L2.St, σ.length = 6 → W cls d σ H) (pv 0) (fun i => (T.at_ i).cl) mP (fun _ => GP) hr (fun _ => bP) .nil (passesAt tk fun cls d σ H e h => h σ e) (pa_cons (pv 1) (pa_cons (pv 2) pa_nil)))) pa_nil)))))
        (fun a oe cls d pn hz hf => pss_one (ps_set (i := 4) nd rfl (Or.inl rfl) (pe_ifExp (pt_val (pe_callB (call_isC hz hf) rfl gIs (by decide +kernel) (pa_cons (pv 5) (pa_cons (pe_glob rfl gL (v := .ref CL) rfl) pa_nil)))) (pe_lst (pa_cons (pe_xdf hz hf (pv 5)) (pa_cons (pe_xdf hz hf (pv 5)) pa_nil))) (pv 4)))))
      (pss_one (ps_ret (pv 4)))), ?_⟩
    walk_at "rd"
    refine ⟨Rd.small (by show 2 ≤ 100000; decide), fun p n1 => ?_⟩
    have s1 := same_new (o := HO.lst ([V.str "other", V.non])) n1
    have t1 := upd_same (H := H) (a := p) (o := HO.lst ([V.str "other", V.non]))
    generalize upd H p (HO.lst ([V.str "other", V.non])) = H1 at s1 t1 ⊢
    walk_at "rd"
    have fm1 := hf.kp (kp_same s1)
    have fx1 := hx.kp (kp_same s1)
    obtain ⟨a, dx, fs, g1, p1, r1, rfl, el, ha, b1⟩ := id fm1.obj
    cases b
    · walk_at "rd"
      refine iteF ?_
      walk_at "rd"
      refine ⟨g, a, dx, fs, rfl, ha, b1.meth "put", ?_⟩
      walk_at "rd"
      refine ⟨g, _, l, k, g2, x, m, rfl, fm1, og, ht, fx1, o2, fit2, hk, few, le1, fun le2 u H2 l' k2 fu => ?_, fun gt dd H2 k2 nd2 e2 σ hσ => ?_⟩
      · walk_at "rd"
        refine ⟨Rd.small (by show 2 ≤ 100000; decide), fun p3 n3 => ?_⟩
        have s3 := same_new (o := HO.lst ([V.str "made", u])) n3
        have t3 := upd_same (H := H2) (a := p3) (o := HO.lst ([V.str "made", u]))
        generalize upd H2 p3 (HO.lst ([V.str "made", u])) = H3 at s3 t3 ⊢
        walk_at "rd"
        exact q1 le2 p3 u l' H3 ((kf_same s1).trans (k2.trans (kf_same s3))) (s1.free (k2.free n3)) t3 (fu.kp (kp_same s3))
      · match σ, hσ with
        | [z0, z1, z2, z3, z4, z5], _ =>
        refine ⟨true, ex1, fun _ ae nae => ?_, fun z => nomatch z⟩
        walk_at "rd"
        refine ⟨CT, dd, _, .ref CL, .ref CL, true, rfl, rfl, rfl, e2, Y.xc, fun u r => r, ki, ?_⟩
        refine ⟨true, rfl, ?_⟩
        refine iteT ?_
        walk_at "rd"
        refine rd_xdf (v := .str "depth") rfl Y.xc Y.n1 e2 rfl ?_
        walk_at "rd"
        refine rd_xdf (v := .int 8) rfl Y.xc Y.n2 e2 rfl ?_
        walk_at "rd"
        refine ⟨Rd.small (by show 2 ≤ 100000; decide), fun p4 n4 => ?_⟩
        have s4 := same_new (o := HO.lst ([V.str "depth", V.int 8])) n4
        have t4 := upd_same (H := H2) (a := p4) (o := HO.lst ([V.str "depth", V.int 8]))
        generalize upd H2 p4 (HO.lst ([V.str "depth", V.int 8])) = H3 at s4 t4 ⊢
        walk_at "rd"
        exact q2 gt p4 H3 ((kf_same s1).trans (k2.trans (kf_same s4))) (s1.free (k2.free n4)) t4
    · walk_at "rd"
      refine iteT ?_
      refine methK ?_
      walk_at "rd"
      refine ⟨g, a, dx, fs, rfl, ha, b1.meth "put", ?_⟩
      walk_at "rd"
      refine ⟨rfl, rfl, ?_⟩
      refine ⟨g, _, l, k, g2, x, m, rfl, fm1, og, ht, fx1, o2, fit2, hk, few, le1, fun le2 u H2 l' k2 fu => ?_, fun gt dd H2 k2 nd2 e2 σ hσ => ?_⟩
      · walk_at "rd"
        refine ⟨Rd.small (by show 2 ≤ 100000; decide), fun p3 n3 => ?_⟩
        have s3 := same_new (o := HO.lst ([V.str "made", u])) n3
        have t3 := upd_same (H := H2) (a := p3) (o := HO.lst ([V.str "made", u]))
        generalize upd H2 p3 (HO.lst ([V.str "made", u])) = H3 at s3 t3 ⊢
        walk_at "rd"
        exact q1 le2 p3 u l' H3 ((kf_same s1).trans (k2.trans (kf_same s3))) (s1.free (k2.free n3)) t3 (fu.kp (kp_same s3))
      · match σ, hσ with
        | [z0, z1, z2, z3, z4, z5], _ =>
        refine ⟨true, ex1, fun _ ae nae => ?_, fun z => nomatch z⟩
        walk_at "rd"
        refine ⟨CT, dd, _, .ref CL, .ref CL, true, rfl, rfl, rfl, e2, Y.xc, fun u r => r, ki, ?_⟩
        refine ⟨true, rfl, ?_⟩
        refine iteT ?_
        walk_at "rd"
        refine rd_xdf (v := .str "depth") rfl Y.xc Y.n1 e2 rfl ?_
        walk_at "rd"
        refine rd_xdf (v := .int 8) rfl Y.xc Y.n2 e2 rfl ?_
        walk_at "rd"
        refine ⟨Rd.small (by show 2 ≤ 100000; decide), fun p4 n4 => ?_⟩
        have s4 := same_new (o := HO.lst ([V.str "depth", V.int 8])) n4
        have t4 := upd_same (H := H2) (a := p4) (o := HO.lst ([V.str "depth", V.int 8]))
        generalize upd H2 p4 (HO.lst ([V.str "depth", V.int 8])) = H3 at s4 t4 ⊢
        walk_at "rd"
        exact q2 gt p4 H3 ((kf_same s1).trans (k2.trans (kf_same s4))) (s1.free (k2.free n4)) t4
end
end K12

namespace K12
open PySem PySem.Spec PyProof.Rows L2
local macro_rules | `(tactic| walk_at "rd1") => `(tactic| first
  | (with_reducible refine Rd.seq ?_) | (with_reducible refine Rd.asg ?_) | (with_reducible refine Rd.ret ?_) | (with_reducible refine Rd.nxt ?_) | (with_reducible refine Rd.ifS ?_)
  | (with_reducible refine Rd.op ?_) | (with_reducible refine Rd.un ?_) | (with_reducible refine Rd.cb ?_) | (with_reducible refine Rd.cons ?_) | (with_reducible refine Rd.nil ?_) | (with_reducible refine Rd.ifx ?_)
  | (with_reducible refine Rd.test ?_) | (with_reducible refine Rd.testB ?_) | (with_reducible refine Rd.notT ?_) | (with_reducible refine Rd.isB ?_) | (with_reducible refine Rd.lst ?_) | (with_reducible refine Rd.tup ?_)
  | (with_reducible refine Rd.andV ?_) | (with_reducible refine Rd.orV ?_) | (with_reducible refine Rd.notV ?_) | (with_reducible refine Rd.andT ?_) | (with_reducible refine Rd.orT ?_) | (with_reducible refine Rd.chain ?_)
  | (with_reducible refine Rd.m0 ?_) | (with_reducible refine Rd.m1 ?_) | (with_reducible refine Rd.bm0 ?_) | (with_reducible refine Rd.bm ?_) | (with_reducible refine Rd.sl ?_) | (with_reducible refine Rd.part ?_) | (with_reducible refine Rd.part0 ?_) | (with_reducible refine Rd.isI ?_)
  | (with_reducible refine Rd.fmt ?_) | (with_reducible refine Rd.fmtRD ?_) | (with_reducible refine Rd.meth ?_) | (with_reducible refine makeG ?_) | (with_reducible refine Rd.prop ?_) | (with_reducible refine Rd.js ?_) | (with_reducible refine Rd.js0 ?_) | (with_reducible refine Rd.par ?_) | (with_reducible refine Rd.star ?_) | (with_reducible refine lcR1 ?_) | (with_reducible refine lcR2 ?_) | (with_reducible refine Rd.fld ?_) | (with_reducible refine Rd.sfld ?_) | (with_reducible refine Rd.expr ?_) | (with_reducible refine L2.isNR ?_) | (with_reducible refine L2.methI ?_) | (with_reducible refine Rd.forZ ?_)
  | (with_reducible refine Rd.forEA ?_) | (with_reducible refine Rd.forR1 ?_) | (with_reducible refine Rd.forR2 ?_) | (with_reducible refine Rd.forL ?_) | (with_reducible refine Rd.forT ?_)
  | (with_reducible refine Rd.call ?_) | (with_reducible refine Rd.asgG ?_) | (with_reducible refine Rd.gNm ?_) | (with_reducible refine Rd.gSb ?_) | (with_reducible refine Rd.gC ?_) | (with_reducible refine Rd.gN ?_)
  | ((with_reducible refine' Rd.var ?hv ?_); (case hv => exact rfl)) | (with_reducible refine Rd.c ?_) | (with_reducible refine Rd.i0 ?_) | (with_reducible refine Rd.neg ?_)
  | ((with_reducible refine' Rd.iC ?hc ?_); (case hc => first | (show (0 : Int) < _; decide) | exact ⟨by decide, by decide⟩ | exact ⟨by decide, by decide, by decide⟩ | exact .inl ⟨by decide, by decide⟩ | exact .inr ⟨by decide, by decide⟩ | exact .inl ⟨by omega, by omega⟩ | (show (0 : Int) < _; omega) | exact ⟨by omega, by omega⟩))
  | ((with_reducible refine' Rd.eqS ?hc ?_); (case hc => rfl)) | ((with_reducible refine' Rd.neS ?hc ?_); (case hc => rfl)))
local macro_rules | `(tactic| walk_at "rd") => `(tactic| repeat walk_at "rd1")
theorem put_le (g : Fm) : ∀ (f : Fm) (k : Nat), (f.put k g).q.1 ≤ f.q.1 + g.q.1 ∧ (f.put k g).ht ≤ f.ht + g.ht ∧ (Okf f → Okf g → Okf (f.put k g))
  | f, 0 => by
    rw [show f.put 0 g = g by cases f <;> rfl]
    exact ⟨by omega, by omega, fun _ h => h⟩
  | .num n, k + 1 => ⟨Nat.le_add_right _ _, Nat.le_add_right _ _, fun h _ => h⟩
  | .ref w x, k + 1 => ⟨Nat.le_add_right _ _, Nat.le_add_right _ _, fun h _ => h⟩
  | .pair o l r, k + 1 => by
    obtain ⟨a1, a2, a3⟩ := put_le g l k
    obtain ⟨b1, b2, b3⟩ := put_le g r (k - l.q.1)
    have hq : ∀ x y : Fm, (Fm.pair o x y).q.1 = 1 + x.q.1 + y.q.1 := fun _ _ => rfl
    have hh : ∀ x y : Fm, (Fm.pair o x y).ht = max x.ht y.ht + 1 := fun _ _ => rfl
    unfold Fm.put
    split
    · rw [hq, hq, hh, hh]
      exact ⟨by omega, by omega, fun h hg => ⟨h.1, a3 h.2.1 hg, h.2.2⟩⟩
    · rw [hq, hq, hh, hh]
      exact ⟨by omega, by omega, fun h hg => ⟨h.1, h.2.1, b3 h.2.2 hg⟩⟩
  | .cho t s a b, k + 1 => by
    obtain ⟨a1, a2, a3⟩ := put_le g t k
    obtain ⟨b1, b2, b3⟩ := put_le g a (k - t.q.1)
    obtain ⟨c1, c2, c3⟩ := put_le g b (k - t.q.1 - a.q.1)
    have hq : ∀ x y z : Fm, (Fm.cho x s y z).q.1 = 1 + x.q.1 + y.q.1 + z.q.1 := fun _ _ _ => rfl
    have hh : ∀ x y z : Fm, (Fm.cho x s y z).ht = max x.ht (max y.ht z.ht) + 1 := fun _ _ _ => rfl
    unfold Fm.put
    split
    · rw [hq, hq, hh, hh]
      exact ⟨by omega, by omega, fun h hg => ⟨h.1, a3 h.2.1 hg, h.2.2.1, h.2.2.2⟩⟩
    · split
      · rw [hq, hq, hh, hh]
        exact ⟨by omega, by omega, fun h hg => ⟨h.1, h.2.1, b3 h.2.2.1 hg, h.2.2.2⟩⟩
      · rw [hq, hq, hh, hh]
        exact ⟨by omega, by omega, fun h hg => ⟨h.1, h.2.1, h.2.2.1, c3 h.2.2.2 hg⟩⟩
def depD : PyData := .list [.str "depth", .int 8]
theorem dep_shw : Shw depD := .of (by decide +kernel) (by decide +kernel) (by decide +kernel) (by decide +kernel) (by decide +kernel)
theorem repr_dep {K : PySem.W.Frag} {H : Hp} {Q : VK} {p : Addr} (h : H p = some (.lst [.str "depth", .int 8])) (q : Q (.str depD.shown) H) : rRepr K [.ref p] H Q :=
  ⟨p, depD, rfl, .lst (SqL.of h) (.cons (.str _) (.cons (.int _) .nil)), dep_shw.sw, dep_shw.dp, Rd.small (Nat.le_trans dep_shw.ln (by decide)), q⟩
abbrev sPR : Stmt := topA i_law_put_right
def spPR (K : PySem.W.Frag) (c : Cs) (n : Nat) : Sp := fun vs H Q _ => ∃ (p : Addr) (f g : Fm) (v u x : V) (l : List V), vs = [.ref p, v, u, x] ∧ PotAt H p ∧ FmAt K c H f v l ∧ TpAt K H f u ∧ TpAt K H g x ∧ Okf f ∧ Okf g ∧ Fits f ∧ Fits g ∧ f.q.1 + g.q.1 ≤ 40 ∧ f.ht + g.ht ≤ n ∧ ∀ H', Kq K c p H H' → Q (.bl true) H'
section
variable {P : Program} {w : World} {K : PySem.W.Frag} {mg : Str → Option Value} {base : Heap} {c : Cs} {CF f fA fD fF fW fP fI fq fR : Addr} {fd fdA fdD fdF fdW fdP fdI fdq fdR : FuncData}
abbrev nmsPR : List Str := ["_law_pot_here", "_law_made", "_law_part_here", "_law_other", "_law_beside", "_law_at", "_law_due", "_law_told"]
abbrev psPR : List Str := ["_law_pot_here", "_law_made", "_law_part_here", "_law_other"]
theorem scPR : FnScope nmsPR psPR (defScope sPR) := ⟨rfl, rfl, rfl, by decide +kernel, rfl, by decide +kernel, by decide +kernel⟩
theorem ok_pr {n : Nat} (F : FnP K "_law_put_right" sPR f fd) (T : Cl K c) (B : Fb K mg c CF) (qE : Eqc K c fq) (GE : FnG P w K mg base CX0 (n * 3 + 3) fq fdq ["self", "other"] (spEqF K c CF n)) (bE : Binds K fdq ["self", "other"] [])
    (FR : FnP K "_law_draw" sDraw fR fdR) (GR : FnOk P w K mg base CX0 1 fR fdR ["_law_pot_here", "_law_many"] spDraw) (gR : mg "_law_draw" = some (.ref fR))
    (FA : FnP K "_law_all" sAll fA fdA) (GA : FnOk P w K mg base CX0 (n + 1) fA fdA ["_law_part_here"] (spAll K n)) (gA : mg "_law_all" = some (.ref fA))
    (FD : FnP K "_law_deep" sDeep fD fdD) (GD : FnOk P w K mg base CX0 (n + 1) fD fdD ["_law_part_here"] (spDeep K n)) (gD : mg "_law_deep" = some (.ref fD))
    (FF : FnP K "_law_formula" sLF fF fdF) (GF : FnOk P w K mg base CX0 (n + 5) fF fdF ["_law_part_here"] (spLF K c n)) (gF : mg "_law_formula" = some (.ref fF))
    (FW : FnP K "_law_with" sWithL fW fdW) (GW : FnOk P w K mg base CX0 (n + 1) fW fdW ["_law_part_here", "_law_at", "_law_other"] (spWithL K n)) (gW : mg "_law_with" = some (.ref fW))
    (FP : FnP K "_law_put" sPutL fP fdP) (GP : FnOk P w K mg base CX0 (n + 10) fP fdP psPu (spPutL K c n)) (gP : mg "_law_put" = some (.ref fP))
    (FI : FnP K "_law_is" sIs fI fdI) (GI : FnG P w K mg base CX0 (n * 3 + 9) fI fdI ["_law_made", "_law_part_here"] (spIs K c n)) (gI : mg "_law_is" = some (.ref fI))
    (gRepr : mg "repr" = none) (gLen : mg "len" = none) (gRange : mg "range" = none) (sm : smOk K = true) (hn : 1 ≤ n) : FnG P w K mg base CX0 (n * 3 + 10) f fd psPR (spPR K c n) := by
  have bR : Binds K fdR ["_law_pot_here", "_law_many"] [] := FR.bindsN fun _ _ _ _ _ _ us hl => match us, hl with | [_, _], _ => rfl
  have bA : Binds K fdA ["_law_part_here"] [] := FA.bindsN fun _ _ _ _ _ _ us hl => match us, hl with | [_], _ => rfl
  have bD : Binds K fdD ["_law_part_here"] [] := FD.bindsN fun _ _ _ _ _ _ us hl => match us, hl with | [_], _ => rfl
  have bF : Binds K fdF ["_law_part_here"] [] := FF.bindsN fun _ _ _ _ _ _ us hl => match us, hl with | [_], _ => rfl
  have bW : Binds K fdW ["_law_part_here", "_law_at", "_law_other"] [] := FW.bindsN fun _ _ _ _ _ _ us hl => match us, hl with | [_, _, _], _ => rfl
  have bP : Binds K fdP psPu [] := FP.bindsN fun _ _ _ _ _ _ us hl => match us, hl with | [_, _, _, _], _ => rfl
  have bI : Binds K fdI ["_law_made", "_law_part_here"] [] := FI.bindsN fun _ _ _ _ _ _ us hl => match us, hl with | [_, _], _ => rfl
  have nd := scPR.nd
  refine F.okG scPR (fun vs H Q E h => ?_) (fun cdv A outer s H vs Q E hgu hr h => ?_)
  · obtain ⟨p, g, g2, v, u, x, l, rfl, _⟩ := h
    rfl
  · obtain ⟨p, g, g2, v, u, x, l, rfl, hp, hf, tf, tg, og, o2, fit, fit2, le1, le2, q⟩ := h
    have rA := hr.mono (show n + 1 ≤ n * 3 + 9 by omega)
    have rF := hr.mono (show n + 5 ≤ n * 3 + 9 by omega)
    have rE := hr.mono (show n * 3 + 3 ≤ n * 3 + 9 by omega)
    have r1 := hr.mono (show 1 ≤ n * 3 + 9 by omega)
    have rP := hr.mono (show n + 10 ≤ n * 3 + 9 by omega)
    refine ⟨_, PSs.nox (pss_cons (ps_set (i := 4) nd rfl (Or.inl rfl) (pe_call GF rF rfl gF FF.kp bF .nil pass0 (pa_cons (pv 3) pa_nil)))
        (pss_cons (ps_for PassesOwn.never rfl (pi_range1 rfl gRange (pa_cons (pe_callB call_len rfl gLen boot_len (pa_cons (pe_call GA rA rfl gA FA.kp bA .nil pass0 (pa_cons (pv 2) pa_nil)) pa_nil)) pa_nil)) (pg_name (i := 5) nd rfl (Or.inl rfl)) (pss_cons (ps_set (i := 6) nd rfl (Or.inl rfl) (pe_call GW rA rfl gW FW.kp bW .nil pass0 (pa_cons (pv 2) (pa_cons (pv 5) (pa_cons (pv 3) pa_nil)))))
        (pss_cons (ps_set (i := 7) nd rfl (Or.inl rfl) (pe_call GP rP rfl gP FP.kp bP .nil pass0 (pa_cons (pv 1) (pa_cons (pv 5) (pa_cons (pv 4) (pa_cons (pe_cmpR op_eq (pe_call GR r1 rfl gR FR.kp bR .nil pass0 (pa_cons (pv 0) (pa_cons pe_int pa_nil))) pe_int (nomark _)) pa_nil))))))
        (pss_one (ps_if (pt_cmpR op_gt (pe_call GD rA rfl gD FD.kp bD .nil pass0 (pa_cons (pv 6) pa_nil)) pe_int (nomark _)) (pss_one (ps_if (pt_cmpR op_ne (pe_callB (call_reprD hgu hr.units sm) rfl gRepr (by decide +kernel) (pa_cons (pv 7) pa_nil)) (pe_callB (call_reprD hgu hr.units sm) rfl gRepr (by decide +kernel) (pa_cons (pe_lst (pa_cons pe_str (pa_cons pe_int pa_nil))) pa_nil)) (nomark _)) (pss_one (ps_ret pe_bl)) pss_nil)) (pss_one (ps_if (PW.pt (pw_or (pt_cmpR op_ne (pe_ix ix_list (pv 7) pe_int (fun _ _ => rfl)) pe_str (nomark _)) (pw_or1 (pt_not (pt_val (pe_callG GI hgu hr rfl gI FI.kp bI pass0 (pa_cons (pe_ix ix_list (pv 7) pe_int (fun _ _ => rfl)) (pa_cons (pv 6) pa_nil)))))))) (pss_one (ps_ret pe_bl)) pss_nil)))))))
        (pss_one (ps_ret (pe_cmpR (op_eqIs (C := clsOf c) GE qE.eq bE pass0 hgu rE) (pv 4) (pe_call GF rF rfl gF FF.kp bF .nil pass0 (pa_cons (pv 3) pa_nil)) (nomark _)))))), ?_⟩
    walk_at "rd"
    have h3 : g2.ht ≤ n := by omega
    have h4 : g.ht ≤ n := by omega
    refine ⟨g2, x, rfl, tg, o2, h3, fit2, fun vb H1 lb nw => ?_⟩
    walk_at "rd"
    have s1 := nw.same
    have q1 := q_pos g2
    refine ⟨g, u, rfl, tf.kp (kp_same s1), og, h4, by omega, fun pe us H2 s2 npe eE tE => ?_⟩
    walk_at "rd"
    have lus := tE.len
    have sl := subs_len g
    refine ⟨_, us.length, rfl, .inl ⟨us, SqL.of eE, rfl⟩, ?_⟩
    walk_at "rd"
    refine ⟨((us.length : Nat) : Int), rfl, by omega, by omega, ?_⟩
    have s12 := s1.trans s2
    have hp2 := pot_same hp s12
    have fb2 := nw.at_.kp (kp_same s2)
    have f2 := hf.kp (kp_same s12)
    have t2 := tf.kp (kp_same s12)
    have tg2 := tg.kp (kp_same s12)
    refine for_it walk_range (fun i σ G => (∃ b5 b6 b7, σ = [some (.ref p), some v, some u, some x, some vb, b5, b6, b7]) ∧ Kq K c p H2 G) ⟨⟨_, _, _, rfl⟩, Kq.refl⟩ (fun _ _ _ _ _ => trivial) (fun i y σ G G' hi hy z => ?_) (fun σ G z => ?_)
    · obtain ⟨⟨b5, b6, b7, rfl⟩, kG⟩ := hy
      obtain ⟨rfl, rfl⟩ := z
      have hi : i < g.q.1 := by omega
      have pG := kG.pot hp2
      have fG := kG.fm og f2
      have fbG := kG.fm o2 fb2
      have tG := t2.kq kG hp2
      have tgG := tg2.kq kG hp2
      obtain ⟨z1, z2, _⟩ := put_le g2 g i
      have po := put_ok g i g2 og o2
      dsimp only
      rw [show (0 : Int) + ((i : Nat) : Int) = ((i : Nat) : Int) by omega]
      walk_at "rd"
      refine ⟨g, g2, u, x, i, rfl, tG, tgG, og, h4, hi, by omega, fun w6 G2 s6 tw => ?_⟩
      walk_at "rd"
      have pG2 := pot_same pG s6
      refine ⟨p, 2, rfl, pG2, by decide, by decide +kernel, fun d G3 d0 dl p3 b3 => ?_⟩
      walk_at "rd"
      have kB : Kq K c p G2 G3 := kq_pot pG2 b3 p3
      have kA : Kq K c p G' G3 := (kq_same s6).trans kB
      have twA := tw.kq kB pG2
      refine ⟨g, v, l, i, g2, vb, lb, decide (V.int d = V.int 0), rfl, kA.fm og fG, og, h4, kA.fm o2 fbG, o2, fit2, hi, by omega, by omega, fun le8 pt u7 l7 H7 k7 np7 e7 f7 => ?_, fun gt8 pt H7 k7 np7 e7 => ?_⟩
      · walk_at "rd"
        have tw7 := twA.kf k7
        refine ⟨g.put i g2, w6, rfl, tw7, po, by omega, fun H8 s8 => ?_⟩
        walk_at "rd"
        refine ⟨_, _, rfl, rfl, _, rfl, ?_⟩
        refine ifZ (decide_eq_false (by omega)) ?_
        walk_at "rd"
        refine Rd.ixL (SqL.of (s8 _ _ e7)) rfl ?_
        walk_at "rd"
        refine ifZ (neSelf _) ?_
        walk_at "rd"
        refine Rd.ixL (SqL.of (s8 _ _ e7)) rfl ?_
        walk_at "rd"
        refine ⟨g.put i g2, u7, w6, l7, rfl, f7.kp (kp_same s8), tw7.kp (kp_same s8), po, by omega, ⟨by omega, le8⟩, fun H9 k9 => ?_⟩
        refine ⟨true, rfl, ?_⟩
        refine iteF ?_
        walk_at "rd"
        exact ⟨⟨_, _, _, rfl⟩, kG.trans (kA.trans (k7.kq.trans ((kq_same s8).trans k9.kq)))⟩
      · walk_at "rd"
        have tw7 := twA.kf k7
        refine ⟨g.put i g2, w6, rfl, tw7, po, by omega, fun H8 s8 => ?_⟩
        walk_at "rd"
        refine ⟨_, _, rfl, rfl, _, rfl, ?_⟩
        refine ifY (decide_eq_true (by omega)) ?_
        walk_at "rd"
        refine repr_dep (s8 _ _ e7) ?_
        walk_at "rd"
        refine ⟨Rd.small (by show 2 ≤ 100000; decide), fun p9 n9 => ?_⟩
        have s9 := same_new (o := HO.lst ([V.str "depth", V.int 8])) n9
        have t9 := upd_same (H := H8) (a := p9) (o := HO.lst ([V.str "depth", V.int 8]))
        generalize upd H8 p9 (HO.lst ([V.str "depth", V.int 8])) = H9 at s9 t9 ⊢
        walk_at "rd"
        refine repr_dep t9 ?_
        refine ⟨rfl, _, rfl, ?_⟩
        refine ifZ (neSelf _) ?_
        walk_at "rd"
        exact ⟨⟨_, _, _, rfl⟩, kG.trans (kA.trans (k7.kq.trans (kq_same (s8.trans s9))))⟩
    · obtain ⟨⟨b5, b6, b7, rfl⟩, kG⟩ := z
      walk_at "rd"
      refine ⟨g2, x, rfl, tg2.kq kG hp2, o2, h3, fit2, fun v9 H9 l9 nw9 => ?_⟩
      walk_at "rd"
      refine neF T B qE ((kG.fm o2 fb2).kp (kp_same nw9.same)) nw9.at_ o2 o2 h3 fun H10 e10 => ?_
      rw [decide_eq_true rfl]
      exact q H10 ((kq_same s12).trans (kG.trans (kq_same (nw9.same.trans e10))))
end
end K12

namespace K12
open PySem PySem.Spec PyProof.Rows L2
local macro_rules | `(tactic| walk_at "rd1") => `(tactic| first
  | (with_reducible refine Rd.seq ?_) | (with_reducible refine Rd.asg ?_) | (with_reducible refine Rd.ret ?_) | (with_reducible refine Rd.nxt ?_) | (with_reducible refine Rd.ifS ?_)
  | (with_reducible refine Rd.op ?_) | (with_reducible refine Rd.un ?_) | (with_reducible refine Rd.cb ?_) | (with_reducible refine Rd.cons ?_) | (with_reducible refine Rd.nil ?_) | (with_reducible refine Rd.ifx ?_)
  | (with_reducible refine Rd.test ?_) | (with_reducible refine Rd.testB ?_) | (with_reducible refine Rd.notT ?_) | (with_reducible refine Rd.isB ?_) | (with_reducible refine Rd.lst ?_) | (with_reducible refine Rd.tup ?_)
  | (with_reducible refine Rd.andV ?_) | (with_reducible refine Rd.orV ?_) | (with_reducible refine Rd.notV ?_) | (with_reducible refine Rd.andT ?_) | (with_reducible refine Rd.orT ?_) | (with_reducible refine Rd.chain ?_)
  | (with_reducible refine Rd.m0 ?_) | (with_reducible refine Rd.m1 ?_) | (with_reducible refine Rd.bm0 ?_) | (with_reducible refine Rd.bm ?_) | (with_reducible refine Rd.sl ?_) | (with_reducible refine Rd.part ?_) | (with_reducible refine Rd.part0 ?_) | (with_reducible refine Rd.isI ?_)
  | (with_reducible refine Rd.fmt ?_) | (with_reducible refine Rd.fmtRD ?_) | (with_reducible refine Rd.meth ?_) | (with_reducible refine makeG ?_) | (with_reducible refine Rd.prop ?_) | (with_reducible refine Rd.js ?_) | (with_reducible refine Rd.js0 ?_) | (with_reducible refine Rd.par ?_) | (with_reducible refine Rd.star ?_) | (with_reducible refine lcR1 ?_) | (with_reducible refine lcR2 ?_) | (with_reducible refine Rd.fld ?_) | (with_reducible refine Rd.sfld ?_) | (with_reducible refine Rd.expr ?_) | (with_reducible refine L2.isNR ?_) | (with_reducible refine L2.methI ?_) | (with_reducible refine Rd.forZ ?_)
  | (with_reducible refine Rd.forEA ?_) | (with_reducible refine Rd.forR1 ?_) | (with_reducible refine Rd.forR2 ?_) | (with_reducible refine Rd.forL ?_) | (with_reducible refine Rd.forT ?_)
  | (with_reducible refine Rd.call ?_) | (with_reducible refine Rd.asgG ?_) | (with_reducible refine Rd.gNm ?_) | (with_reducible refine Rd.gSb ?_) | (with_reducible refine Rd.gC ?_) | (with_reducible refine Rd.gN ?_)
  | ((with_reducible refine' Rd.var ?hv ?_); (case hv => exact rfl)) | (with_reducible refine Rd.c ?_) | (with_reducible refine Rd.i0 ?_) | (with_reducible refine Rd.neg ?_)
  | ((with_reducible refine' Rd.iC ?hc ?_); (case hc => first | (show (0 : Int) < _; decide) | exact ⟨by decide, by decide⟩ | exact ⟨by decide, by decide, by decide⟩ | exact .inl ⟨by decide, by decide⟩ | exact .inr ⟨by decide, by decide⟩ | exact .inl ⟨by omega, by omega⟩ | (show (0 : Int) < _; omega) | exact ⟨by omega, by omega⟩))
  | ((with_reducible refine' Rd.eqS ?hc ?_); (case hc => rfl)) | ((with_reducible refine' Rd.neS ?hc ?_); (case hc => rfl)))
local macro_rules | `(tactic| walk_at "rd") => `(tactic| repeat walk_at "rd1")
abbrev sCh : Stmt := topA i_law_chosen
abbrev sChain : Stmt := topA i_law_chain
def spCh (K : PySem.W.Frag) : Sp := fun vs H Q _ => ∃ (p : Addr) (m : Nat), vs = [.ref p, .int (m : Nat)] ∧ PotAt H p ∧ m ≤ 9 ∧ ∀ (t : Addr) (s : List Nat) H', PotAt H' p → But p H H' → SqT K H' t (s.map natV) → Asc s → Q (.ref t) H'
def spChain (K : PySem.W.Frag) : Sp := fun vs H Q _ => ∃ (p s a0 a1 a2 : Addr) (x0 x1 x2 : List Str) (lv : Nat), vs = [.ref p, .int 9, .ref s, .int (lv : Nat)] ∧ PotAt H p ∧ Spot3 K H p s a0 a1 a2 x0 x1 x2 ∧ lv ≤ 8 ∧ ∀ f v H', PotAt H' p → But p H H' → TpAt K H' f v → Okf f → f.q.1 ≤ 1 + 3 * lv → f.q.2 ≤ lv → f.ht ≤ lv + 1 → Q v H'
theorem pair_q2 (o : Nat) (l r : Fm) : (Fm.pair o l r).q.2 ≤ max l.q.2 r.q.2 + 1 := by
  show fmD [l.q, r.q] ≤ _
  unfold fmD
  simp only [List.foldl]
  split <;> split <;> omega
theorem cho_q2 (s : List Nat) (t a b : Fm) : (Fm.cho t s a b).q.2 ≤ max t.q.2 (max a.q.2 b.q.2) + 1 := by
  show fmD [t.q, a.q, b.q] ≤ _
  unfold fmD
  simp only [List.foldl]
  split <;> split <;> split <;> omega
theorem leaf_is {f : Fm} (h : f.q.1 ≤ 1) : f.q.1 = 1 ∧ f.q.2 = 0 ∧ f.ht = 1 := by
  cases f with
  | num _ => exact ⟨rfl, rfl, rfl⟩
  | ref _ _ => exact ⟨rfl, rfl, rfl⟩
  | pair o l r =>
    have e : (Fm.pair o l r).q.1 = 1 + l.q.1 + r.q.1 := rfl
    have := q_pos l
    omega
  | cho t s a b =>
    have e : (Fm.cho t s a b).q.1 = 1 + t.q.1 + a.q.1 + b.q.1 := rfl
    have := q_pos t
    omega
theorem word_in {v : V} (h : v ∈ [V.str "plus", V.str "least", V.str "most", V.str "same"]) : ∃ o, o < 4 ∧ v = .str (pairWord o) := by
  simp only [List.mem_cons, List.not_mem_nil, or_false] at h
  rcases h with rfl | rfl | rfl | rfl
  · exact ⟨0, by decide, rfl⟩
  · exact ⟨1, by decide, rfl⟩
  · exact ⟨2, by decide, rfl⟩
  · exact ⟨3, by decide, rfl⟩
/-- whatever the side is -/
theorem leftT {σ : L2.St} {H : Hp} {Q : VK} {d i : Int} (s5 : σ[5]? = some (some (.int d))) (s6 : σ[6]? = some (some (.int i))) (h : ∀ b, Q (.bl b) H) :
    tOrV (tOp rEq (tVar 5) (tC (V.int 0))) (tAndV (tOp rEq (tVar 5) (tC (V.int 2))) (tOp rEq (tOp (rI (fun x j => 0 < j) fun i j => V.int (i % j)) (tCB (fun xs H Q => (∃ i, xs = [V.int i] ∧ Q (V.int i) H) ∨ ∃ k, xs = [V.bl k] ∧ Q (V.int (if k = true then 1 else 0)) H) (tCons (tVar 6) tNil)) (tC (V.int 2))) (tC (V.int 0)))) σ H Q := by
  refine ⟨.int d, s5, ?_⟩
  refine ⟨rfl, _, rfl, ?_⟩
  refine Rd.ifB (fun _ => h _) (fun _ => ?_)
  refine ⟨.int d, s5, ?_⟩
  refine ⟨rfl, _, rfl, ?_⟩
  refine Rd.ifB (fun _ => ?_) (fun _ => h _)
  refine ⟨.int i, s6, ?_⟩
  refine .inl ⟨_, rfl, ?_⟩
  refine ⟨_, _, rfl, rfl, (show (0 : Int) < 2 by decide), ?_⟩
  exact ⟨rfl, h _⟩
section
variable {P : Program} {w : World} {K : PySem.W.Frag} {mg : Str → Option Value} {base : Heap} {f fD fL fP fC : Addr} {fd fdD fdL fdP fdC : FuncData}
abbrev nmsCh : List Str := ["_law_pot_here", "_law_modulus", "_law_number"]
theorem scCh : FnScope nmsCh ["_law_pot_here", "_law_modulus"] (defScope sCh) := ⟨rfl, rfl, rfl, by decide +kernel, rfl, by decide +kernel, by decide +kernel⟩
theorem ok_ch (F : FnP K "_law_chosen" sCh f fd) (FD : FnP K "_law_draw" sDraw fD fdD) (GD : FnOk P w K mg base CX0 1 fD fdD ["_law_pot_here", "_law_many"] spDraw) (gD : mg "_law_draw" = some (.ref fD)) (gTup : mg "tuple" = none) (gRange : mg "range" = none) : FnOk P w K mg base CX0 2 f fd ["_law_pot_here", "_law_modulus"] (spCh K) := by
  have bD : Binds K fdD ["_law_pot_here", "_law_many"] [] := FD.bindsN fun _ _ _ _ _ _ us hl => match us, hl with | [_, _], _ => rfl
  have nd := scCh.nd
  refine F.ok scCh (fun vs H Q E h => ?_) (fun cdv A outer s H vs Q E hr h => ?_)
  · obtain ⟨p, m, rfl, _⟩ := h
    rfl
  · obtain ⟨p, m, rfl, hp, m9, q⟩ := h
    refine ⟨_, PSs.nox (pss_one (ps_ret (pe_callTy call_tupV rfl gTup (by decide +kernel) (pa_cons (pe_lc (own := [("_law_number", 2)]) (g := gName 2) (tt := tTest (tOp rEq (tCall spDraw [] E0 (tCons (tVar 0) (tCons (tC (.int 2)) tNil))) (tC (.int 0)))) (te := tVar 2) rfl nd (pi_range1 rfl gRange (pa_cons (pv 1) pa_nil)) (blkOk_by (N := nmsCh) (sc := defScope sCh) (by decide +kernel)) (fun _ _ _ _ _ => by exact pg_name (i := 2) nd rfl (Or.inl rfl)) (fun _ _ _ _ _ => by exact pts_one (pt_cmpR op_eq (pe_call GD hr rfl gD FD.kp bD .nil pass0 (pa_cons (pv 0) (pa_cons pe_int pa_nil))) pe_int (nomark _))) (fun _ _ _ _ _ => by exact pv 2)) pa_nil)))), ?_⟩
    walk_at "rd"
    refine lcF1 ?_
    walk_at "rd"
    refine ⟨_, rfl, by omega, by omega, ?_⟩
    rw [Int.toNat_natCast]
    refine lcGenF (fun k acc G => PotAt G p ∧ But p H G ∧ ∃ s : List Nat, acc = s.map natV ∧ Up s k) (fun k acc G => PotAt G p ∧ But p H G ∧ ∃ s : List Nat, acc = s.map natV ∧ Up s k) rfl (by omega) ⟨hp, But.refl, [], rfl, up_nil⟩ (fun k acc G D o hD j => ?_) (fun k acc G QB hk j qb => ?_) (fun k acc G Q' hk j q' => ?_) (fun D acc G hD j hd => ?_)
    · obtain ⟨⟨x, y, jp, jr⟩, jb, js⟩ := j
      have np : p ≠ D := Ne.symm (pot_new hp hD)
      exact ⟨⟨x, y, by rw [upd_ne np]; exact jp, jr⟩, fun b o hb e => by rw [upd_ne (ne_of_none e hD)]; exact jb b o hb e, js⟩
    · obtain ⟨jp, jb, sl, es, up⟩ := j
      walk_at "rd"
      refine ⟨p, _, rfl, jp, by decide, by decide, fun d G2 d0 dl p5 b5 => ?_⟩
      walk_at "rd"
      exact qb _ G2 (fun b o hb e => b5 b o (pot_new hp hb) e) (fun _ => ⟨p5, jb.trans b5, sl, es, up.skip⟩) (fun _ => ⟨p5, jb.trans b5, sl, es, up⟩)
    · obtain ⟨jp, jb, sl, es, up⟩ := j
      walk_at "rd"
      refine q' _ G (fun _ _ _ e => e) ⟨jp, jb, sl ++ [k], ?_, up.add⟩
      rw [List.map_append, es, Int.zero_add]
      rfl
    obtain ⟨p4, b4, sl, es, up⟩ := j
    subst es
    refine ⟨D, _, rfl, .inl (SqL.of hd), fun t G5 s5 ht => ?_⟩
    exact q t sl G5 (pot_same p4 s5) (b4.trans (butS' s5)) ht (up.asc m9)
abbrev nmsCn : List Str := ["_law_pot_here", "_law_modulus", "_law_spots", "_law_levels", "_law_found", "_law_way", "_law_turn", "_law_beside", "_law_word", "_law_is_left", "_law_parts"]
abbrev psCn : List Str := ["_law_pot_here", "_law_modulus", "_law_spots", "_law_levels"]
theorem scCn : FnScope nmsCn psCn (defScope sChain) := ⟨rfl, rfl, rfl, by decide +kernel, rfl, by decide +kernel, by decide +kernel⟩
theorem ok_chain (F : FnP K "_law_chain" sChain f fd) (FD : FnP K "_law_draw" sDraw fD fdD) (GD : FnOk P w K mg base CX0 1 fD fdD ["_law_pot_here", "_law_many"] spDraw) (gD : mg "_law_draw" = some (.ref fD)) (FP : FnP K "_law_pick" sPick fP fdP) (GP : FnOk P w K mg base CX0 2 fP fdP ["_law_pot_here", "_law_some"] (spPick K)) (gP : mg "_law_pick" = some (.ref fP))
    (FL : FnP K "_law_leaf" sLeaf fL fdL) (GL : FnOk P w K mg base CX0 3 fL fdL ["_law_pot_here", "_law_modulus", "_law_spots"] (spLeaf K)) (gL : mg "_law_leaf" = some (.ref fL)) (FC : FnP K "_law_chosen" sCh fC fdC) (GC : FnOk P w K mg base CX0 2 fC fdC ["_law_pot_here", "_law_modulus"] (spCh K)) (gC : mg "_law_chosen" = some (.ref fC))
    (gInt : mg "int" = none) (gRange : mg "range" = none) : FnOk P w K mg base CX0 4 f fd psCn (spChain K) := by
  have bD : Binds K fdD ["_law_pot_here", "_law_many"] [] := FD.bindsN fun _ _ _ _ _ _ us hl => match us, hl with | [_, _], _ => rfl
  have bP : Binds K fdP ["_law_pot_here", "_law_some"] [] := FP.bindsN fun _ _ _ _ _ _ us hl => match us, hl with | [_, _], _ => rfl
  have bL : Binds K fdL ["_law_pot_here", "_law_modulus", "_law_spots"] [] := FL.bindsN fun _ _ _ _ _ _ us hl => match us, hl with | [_, _, _], _ => rfl
  have bC : Binds K fdC ["_law_pot_here", "_law_modulus"] [] := FC.bindsN fun _ _ _ _ _ _ us hl => match us, hl with | [_, _], _ => rfl
  have nd := scCn.nd
  refine F.ok scCn (fun vs H Q E h => ?_) (fun cdv A outer s H vs Q E hr h => ?_)
  · obtain ⟨p, s, a0, a1, a2, x0, x1, x2, lv, rfl, _⟩ := h
    rfl
  · obtain ⟨p, s, a0, a1, a2, x0, x1, x2, lv, rfl, hp, sp, l8, q⟩ := h
    have r1 := hr.mono (show 1 ≤ 3 by decide)
    have r2 := hr.mono (show 2 ≤ 3 by decide)
    refine ⟨_, PSs.nox (pss_cons (ps_par (i := 4) (j := 5) (by rfl) nd rfl rfl (by decide) rfl rfl (pa_cons (pe_call GL hr rfl gL FL.kp bL .nil pass0 (pa_cons (pv 0) (pa_cons (pv 1) (pa_cons (pv 2) pa_nil)))) (pa_cons (pe_call GD r1 rfl gD FD.kp bD .nil pass0 (pa_cons (pv 0) (pa_cons pe_int pa_nil))) pa_nil)) (by rfl))
        (pss_cons (ps_for PassesOwn.never rfl (pi_range1 rfl gRange (pa_cons (pv 3) pa_nil)) (pg_name (i := 6) nd rfl (Or.inl rfl)) (pss_cons (ps_par (i := 7) (j := 8) (by rfl) nd rfl rfl (by decide) rfl rfl (pa_cons (pe_call GL hr rfl gL FL.kp bL .nil pass0 (pa_cons (pv 0) (pa_cons (pv 1) (pa_cons (pv 2) pa_nil)))) (pa_cons (pe_call GP r2 rfl gP FP.kp bP .nil pass0 (pa_cons (pv 0) (pa_cons (pe_lst (pa_cons pe_str (pa_cons pe_str (pa_cons pe_str (pa_cons pe_str pa_nil))))) pa_nil))) pa_nil)) (by rfl))
        (pss_cons (ps_set (i := 9) nd rfl (Or.inl rfl) (pe_or (pe_cmpR op_eq (pv 5) pe_int (nomark _)) (pe_one (pe_and (pe_cmpR op_eq (pv 5) pe_int (nomark _)) (pe_one (pe_cmpR op_eq (pe_op op_mod (pe_callTy call_int1 rfl gInt boot_int (pa_cons (pv 6) pa_nil)) pe_int) pe_int (nomark _)))))))
        (pss_one (ps_if (pt_cmpR op_eq (pv 5) pe_int (nomark _)) (pss_cons (ps_set (i := 10) nd rfl (Or.inl rfl) (pe_ifExp (pt_cmpR op_eq (pe_call GD r1 rfl gD FD.kp bD .nil pass0 (pa_cons (pv 0) (pa_cons pe_int pa_nil))) pe_int (nomark _)) (pe_lst (pa_cons (pv 7) (pa_cons (pv 7) (pa_cons (pv 4) pa_nil)))) (pe_lst (pa_cons (pv 4) (pa_cons (pv 7) (pa_cons (pv 7) pa_nil))))))
        (pss_one (ps_set (i := 4) nd rfl (Or.inl rfl) (pe_tup (pa_cons pe_str (pa_cons (pe_ix ix_list (pv 10) pe_int (fun _ _ => rfl)) (pa_cons (pe_call GC r2 rfl gC FC.kp bC .nil pass0 (pa_cons (pv 0) (pa_cons (pv 1) pa_nil))) (pa_cons (pe_ix ix_list (pv 10) pe_int (fun _ _ => rfl)) (pa_cons (pe_ix ix_list (pv 10) pe_int (fun _ _ => rfl)) pa_nil))))))))) (pss_one (ps_set (i := 4) nd rfl (Or.inl rfl) (pe_ifExp (pt_val (pv 9)) (pe_tup (pa_cons (pv 8) (pa_cons (pv 4) (pa_cons (pv 7) pa_nil)))) (pe_tup (pa_cons (pv 8) (pa_cons (pv 7) (pa_cons (pv 4) pa_nil))))))))))))
        (pss_one (ps_ret (pv 4))))), ?_⟩
    walk_at "rd"
    refine ⟨p, s, a0, a1, a2, 9, x0, x1, x2, rfl, hp, by decide, by decide, sp, fun f0 v0 H1 dr l0 => ?_⟩
    walk_at "rd"
    refine ⟨p, 4, rfl, dr.pot, by decide, by decide +kernel, fun d H2 d0 dl p2 b2 => ?_⟩
    refine ⟨_, _, rfl, ?_⟩
    have kq2 := kp_pot dr.pot b2
    walk_at "rd"
    refine ⟨((lv : Nat) : Int), rfl, by omega, by omega, ?_⟩
    obtain ⟨e01, e02, e03⟩ := leaf_is l0
    refine for_it walk_range (fun i σ G => ∃ f v c6 c7 c8 c9 c10, σ = [some (.ref p), some (.int 9), some (.ref s), some (.int (lv : Nat)), some v, some (.int d), c6, c7, c8, c9, c10] ∧ PotAt G p ∧ But p H G ∧ TpAt K G f v ∧ Okf f ∧ f.q.1 ≤ 1 + 3 * i ∧ f.q.2 ≤ i ∧ f.ht ≤ i + 1)
      ⟨f0, v0, _, _, _, _, _, rfl, p2, dr.but.trans b2, dr.at_.kp kq2, dr.ok, by omega, by omega, by omega⟩ (fun _ _ _ _ _ => trivial) (fun i y σ G G' hi hy z => ?_) (fun σ G z => ?_)
    · obtain ⟨f, v, c6, c7, c8, c9, c10, rfl, pG, bG, tG, oG, z1, z2, z3⟩ := hy
      obtain ⟨rfl, rfl⟩ := z
      walk_at "rd"
      refine ⟨p, s, a0, a1, a2, 9, x0, x1, x2, rfl, pG, by decide, by decide, sp.but hp bG, fun f2 v2 G2 dr2 l2 => ?_⟩
      obtain ⟨e1, e2, e3⟩ := leaf_is l2
      walk_at "rd"
      refine ⟨Rd.small (by show 4 ≤ 100000; decide), fun pl n3 => ?_⟩
      have s3 := same_new (o := HO.lst ([V.str "plus", V.str "least", V.str "most", V.str "same"])) n3
      have t3 := upd_same (H := G2) (a := pl) (o := HO.lst ([V.str "plus", V.str "least", V.str "most", V.str "same"]))
      generalize upd G2 pl (HO.lst ([V.str "plus", V.str "least", V.str "most", V.str "same"])) = G3 at s3 t3 ⊢
      walk_at "rd"
      refine ⟨p, pl, _, rfl, pot_same dr2.pot s3, t3, pot_new dr2.pot n3, by simp, by decide, fun wv G4 mem p4 b4 => ?_⟩
      obtain ⟨o, ho, rfl⟩ := word_in mem
      refine ⟨_, _, rfl, ?_⟩
      dsimp only
      refine seqI (asgI (leftT (d := d) (i := 0 + ((i : Nat) : Int)) rfl rfl fun b => ?_))
      have p3 := pot_same dr2.pot s3
      have tf4 := ((tG.kp (kp_pot pG dr2.but)).kp (kp_same s3)).kp (kp_pot p3 b4)
      have tl4 := (dr2.at_.kp (kp_same s3)).kp (kp_pot p3 b4)
      have b4A := ((bG.trans dr2.but).trans (butS' s3)).trans b4
      walk_at "rd"
      refine Rd.ifB (fun _ => ?_) (fun _ => ?_)
      · walk_at "rd"
        refine ⟨p, 2, rfl, p4, by decide, by decide +kernel, fun d5 G5 _ _ p5 b5 => ?_⟩
        have tf5 := tf4.kp (kp_pot p4 b5)
        have tl5 := tl4.kp (kp_pot p4 b5)
        walk_at "rd"
        refine Rd.ifB (fun _ => ?_) (fun _ => ?_)
        · skip
          walk_at "rd"
          refine ⟨Rd.small (by show 3 ≤ 100000; decide), fun pp n6 => ?_⟩
          have s6 := same_new (o := HO.lst ([v2, v2, v])) n6
          have t6 := upd_same (H := G5) (a := pp) (o := HO.lst ([v2, v2, v]))
          generalize upd G5 pp (HO.lst ([v2, v2, v])) = G6 at s6 t6 ⊢
          have p6 := pot_same p5 s6
          have npp := pot_new p5 n6
          walk_at "rd"
          refine Rd.ixL (SqL.of t6) rfl ?_
          walk_at "rd"
          refine ⟨p, 9, rfl, p6, by decide, fun tt sl G7 p7 b7 ts asc => ?_⟩
          have t7 := b7 _ _ npp t6
          walk_at "rd"
          refine Rd.ixL (SqL.of t7) rfl ?_
          walk_at "rd"
          refine Rd.ixL (SqL.of t7) rfl ?_
          walk_at "rd"
          refine ⟨Rd.small (by show 5 ≤ 100000; decide), fun p9 n8 => ?_⟩
          have s8 := same_new (o := HO.tup ([V.str "choice", v2, V.ref tt, v2, v])) n8
          have t8 := upd_same (H := G7) (a := p9) (o := HO.tup ([V.str "choice", v2, V.ref tt, v2, v]))
          generalize upd G7 p9 (HO.tup ([V.str "choice", v2, V.ref tt, v2, v])) = G8 at s8 t8 ⊢
          walk_at "rd"
          have tf8 := ((tf5.kp (kp_same s6)).kp (kp_pot p6 b7)).kp (kp_same s8)
          have tl8 := ((tl5.kp (kp_same s6)).kp (kp_pot p6 b7)).kp (kp_same s8)
          have bA := (((b4A.trans b5).trans (butS' s6)).trans b7).trans (butS' s8)
          have y1 := cho_q2 sl f2 f2 f
          have y2 : (Fm.cho f2 sl f2 f).q.1 = 1 + f2.q.1 + f2.q.1 + f.q.1 := rfl
          have y3 : (Fm.cho f2 sl f2 f).ht = max f2.ht (max f2.ht f.ht) + 1 := rfl
          exact ⟨.cho f2 sl f2 f, _, _, _, _, _, _, rfl, pot_same p7 s8, bA, ⟨p9, _, _, _, _, rfl, SqT.of t8, tl8, ts.ext s8, tl8, tf8⟩, ⟨asc, dr2.ok, dr2.ok, oG⟩, by omega, by omega, by omega⟩
        · skip
          walk_at "rd"
          refine ⟨Rd.small (by show 3 ≤ 100000; decide), fun pp n6 => ?_⟩
          have s6 := same_new (o := HO.lst ([v, v2, v2])) n6
          have t6 := upd_same (H := G5) (a := pp) (o := HO.lst ([v, v2, v2]))
          generalize upd G5 pp (HO.lst ([v, v2, v2])) = G6 at s6 t6 ⊢
          have p6 := pot_same p5 s6
          have npp := pot_new p5 n6
          walk_at "rd"
          refine Rd.ixL (SqL.of t6) rfl ?_
          walk_at "rd"
          refine ⟨p, 9, rfl, p6, by decide, fun tt sl G7 p7 b7 ts asc => ?_⟩
          have t7 := b7 _ _ npp t6
          walk_at "rd"
          refine Rd.ixL (SqL.of t7) rfl ?_
          walk_at "rd"
          refine Rd.ixL (SqL.of t7) rfl ?_
          walk_at "rd"
          refine ⟨Rd.small (by show 5 ≤ 100000; decide), fun p9 n8 => ?_⟩
          have s8 := same_new (o := HO.tup ([V.str "choice", v, V.ref tt, v2, v2])) n8
          have t8 := upd_same (H := G7) (a := p9) (o := HO.tup ([V.str "choice", v, V.ref tt, v2, v2]))
          generalize upd G7 p9 (HO.tup ([V.str "choice", v, V.ref tt, v2, v2])) = G8 at s8 t8 ⊢
          walk_at "rd"
          have tf8 := ((tf5.kp (kp_same s6)).kp (kp_pot p6 b7)).kp (kp_same s8)
          have tl8 := ((tl5.kp (kp_same s6)).kp (kp_pot p6 b7)).kp (kp_same s8)
          have bA := (((b4A.trans b5).trans (butS' s6)).trans b7).trans (butS' s8)
          have y1 := cho_q2 sl f f2 f2
          have y2 : (Fm.cho f sl f2 f2).q.1 = 1 + f.q.1 + f2.q.1 + f2.q.1 := rfl
          have y3 : (Fm.cho f sl f2 f2).ht = max f.ht (max f2.ht f2.ht) + 1 := rfl
          exact ⟨.cho f sl f2 f2, _, _, _, _, _, _, rfl, pot_same p7 s8, bA, ⟨p9, _, _, _, _, rfl, SqT.of t8, tf8, ts.ext s8, tl8, tl8⟩, ⟨asc, oG, dr2.ok, dr2.ok⟩, by omega, by omega, by omega⟩
      · walk_at "rd"
        cases b with
        | false =>
          refine iteF ?_
          walk_at "rd"
          refine ⟨Rd.small (by show 3 ≤ 100000; decide), fun p9 n8 => ?_⟩
          have s8 := same_new (o := HO.tup ([V.str (pairWord o), v2, v])) n8
          have t8 := upd_same (H := G4) (a := p9) (o := HO.tup ([V.str (pairWord o), v2, v]))
          generalize upd G4 p9 (HO.tup ([V.str (pairWord o), v2, v])) = G8 at s8 t8 ⊢
          walk_at "rd"
          have tf8 := tf4.kp (kp_same s8)
          have tl8 := tl4.kp (kp_same s8)
          have y1 := pair_q2 o f2 f
          have y2 : (Fm.pair o f2 f).q.1 = 1 + f2.q.1 + f.q.1 := rfl
          have y3 : (Fm.pair o f2 f).ht = max f2.ht f.ht + 1 := rfl
          exact ⟨.pair o f2 f, _, _, _, _, _, _, rfl, pot_same p4 s8, b4A.trans (butS' s8), ⟨p9, _, _, rfl, SqT.of t8, tl8, tf8⟩, ⟨ho, dr2.ok, oG⟩, by omega, by omega, by omega⟩
        | true =>
          refine iteT ?_
          walk_at "rd"
          refine ⟨Rd.small (by show 3 ≤ 100000; decide), fun p9 n8 => ?_⟩
          have s8 := same_new (o := HO.tup ([V.str (pairWord o), v, v2])) n8
          have t8 := upd_same (H := G4) (a := p9) (o := HO.tup ([V.str (pairWord o), v, v2]))
          generalize upd G4 p9 (HO.tup ([V.str (pairWord o), v, v2])) = G8 at s8 t8 ⊢
          walk_at "rd"
          have tf8 := tf4.kp (kp_same s8)
          have tl8 := tl4.kp (kp_same s8)
          have y1 := pair_q2 o f f2
          have y2 : (Fm.pair o f f2).q.1 = 1 + f.q.1 + f2.q.1 := rfl
          have y3 : (Fm.pair o f f2).ht = max f.ht f2.ht + 1 := rfl
          exact ⟨.pair o f f2, _, _, _, _, _, _, rfl, pot_same p4 s8, b4A.trans (butS' s8), ⟨p9, _, _, rfl, SqT.of t8, tf8, tl8⟩, ⟨ho, oG, dr2.ok⟩, by omega, by omega, by omega⟩
    · obtain ⟨f, v, c6, c7, c8, c9, c10, rfl, pG, bG, tG, oG, z1, z2, z3⟩ := z
      walk_at "rd"
      exact q f v G pG bG tG oG (by omega) (by omega) (by omega)
end
end K12

namespace L2
open PySem PySem.Spec PyProof.Rows
theorem lcbR {ta : TA} {tt : TT} {te : TE} {i : Nat} {ii : List Nat} {σ : L2.St} {H : Hp} {Q : VK} (h : ta σ H fun vs H1 => ∃ j, vs = [.int j] ∧ -2 ^ 62 ≤ j ∧ j < 2 ^ 62 ∧ LcB (Itr 0 j.toNat) i tt te ii σ H1 Q) : tLc (iRng1 ta) (gName i) tt te ii σ H Q := h
theorem lcjB {J : It} {i : Nat} {ii : List Nat} {te : TE} {σ : L2.St} {H1 : Hp} {Q : VK} (h : LcB J i tYes te ii σ H1 Q) : LcJ J i ii te σ H1 Q := h
/-- f(), where no guard stands around -/
theorem pe_callG0 {X : Cx} {CX : CXT} {k : Nat} {f : Addr} {fd : FuncData} {sp : Sp} {E : XK} {x : Str} {p pos : Pos} (F : FnG X.prog X.w X.K X.mg X.base CX k f fd [] sp) (hgu : X.A.guards = some []) (hr : Room k X.A) (hg : Gl X x)
    (hm : X.mg x = some (.ref f)) (hk : PySem.W.keepIn X.K (.ref f) = true) (hb : Binds X.K fd [] []) (hx : Passes CX X E) (hdb : (x == ("__debug__" : Str)) = false := by decide) : PE X (.Call (.Name x p) [] [] pos) (tCall sp [] E tNil) := by
  refine ⟨fun pins s σ H Q I h => wpAny_Call_Name_kw (ld_glob I hg hm ?_ hdb)⟩
  have want : sp [] H Q E := h
  refine PySem.W.callWith_K0 I.kIn hk (wpAny_call (codeAny_mono (F.goes X.A X.stack s H ⟨[], []⟩ [] [] Q E hgu hr I.env0 (hb s [] I.kIn rfl) .nil want) fun r' s2 y => ?_))
  match r', y with
  | .error e, y => exact hx pins σ H s e s2 I y
  | .ok (.ret u), y => exact I.after y
end L2
namespace K12
open PySem PySem.Spec PyProof.Rows L2
local macro_rules | `(tactic| walk_at "rd1") => `(tactic| first
  | (with_reducible refine Rd.seq ?_) | (with_reducible refine Rd.asg ?_) | (with_reducible refine Rd.ret ?_) | (with_reducible refine Rd.nxt ?_) | (with_reducible refine Rd.ifS ?_)
  | (with_reducible refine Rd.op ?_) | (with_reducible refine Rd.un ?_) | (with_reducible refine Rd.cb ?_) | (with_reducible refine Rd.cons ?_) | (with_reducible refine Rd.nil ?_) | (with_reducible refine Rd.ifx ?_)
  | (with_reducible refine Rd.test ?_) | (with_reducible refine Rd.testB ?_) | (with_reducible refine Rd.notT ?_) | (with_reducible refine Rd.isB ?_) | (with_reducible refine Rd.lst ?_) | (with_reducible refine Rd.tup ?_)
  | (with_reducible refine Rd.andV ?_) | (with_reducible refine Rd.orV ?_) | (with_reducible refine Rd.notV ?_) | (with_reducible refine Rd.andT ?_) | (with_reducible refine Rd.orT ?_) | (with_reducible refine Rd.chain ?_)
  | (with_reducible refine Rd.m0 ?_) | (with_reducible refine Rd.m1 ?_) | (with_reducible refine Rd.bm0 ?_) | (with_reducible refine Rd.bm ?_) | (with_reducible refine Rd.sl ?_) | (with_reducible refine Rd.part ?_) | (with_reducible refine Rd.part0 ?_) | (with_reducible refine Rd.isI ?_)
  | (with_reducible refine Rd.fmt ?_) | (with_reducible refine Rd.fmtRD ?_) | (with_reducible refine Rd.meth ?_) | (with_reducible refine makeG ?_) | (with_reducible refine Rd.prop ?_) | (with_reducible refine Rd.js ?_) | (with_reducible refine Rd.js0 ?_) | (with_reducible refine Rd.par ?_) | (with_reducible refine Rd.star ?_) | (with_reducible refine lcR1 ?_) | (with_reducible refine lcR2 ?_) | (with_reducible refine Rd.fld ?_) | (with_reducible refine Rd.sfld ?_) | (with_reducible refine Rd.expr ?_) | (with_reducible refine L2.isNR ?_) | (with_reducible refine L2.methI ?_) | (with_reducible refine Rd.forZ ?_)
  | (with_reducible refine Rd.forEA ?_) | (with_reducible refine Rd.forR1 ?_) | (with_reducible refine Rd.forR2 ?_) | (with_reducible refine Rd.forL ?_) | (with_reducible refine Rd.forT ?_)
  | (with_reducible refine Rd.call ?_) | (with_reducible refine Rd.asgG ?_) | (with_reducible refine Rd.gNm ?_) | (with_reducible refine Rd.gSb ?_) | (with_reducible refine Rd.gC ?_) | (with_reducible refine Rd.gN ?_)
  | ((with_reducible refine' Rd.var ?hv ?_); (case hv => exact rfl)) | (with_reducible refine Rd.c ?_) | (with_reducible refine Rd.i0 ?_) | (with_reducible refine Rd.neg ?_)
  | ((with_reducible refine' Rd.iC ?hc ?_); (case hc => first | (show (0 : Int) < _; decide) | exact ⟨by decide, by decide⟩ | exact ⟨by decide, by decide, by decide⟩ | exact .inl ⟨by decide, by decide⟩ | exact .inr ⟨by decide, by decide⟩ | exact .inl ⟨by omega, by omega⟩ | (show (0 : Int) < _; omega) | exact ⟨by omega, by omega⟩))
  | ((with_reducible refine' Rd.eqS ?hc ?_); (case hc => rfl)) | ((with_reducible refine' Rd.neS ?hc ?_); (case hc => rfl)))
local macro_rules | `(tactic| walk_at "rd") => `(tactic| repeat walk_at "rd1")
theorem Kq.write {K : PySem.W.Frag} {c : Cs} {p : Addr} {H G : Hp} {D : Addr} {us : List V} {o : HO} (k : Kq K c p H G) (hp : PotAt H p) (nD : H D = none) (hD : G D = some (.lst us)) (hn : ∀ a r, us ≠ .ref a :: r) : Kq K c p H (upd G D o) where
  fm := fun ok h => (k.fm ok h).strs hD hn
  oth := fun {b o'} nb e n => by rw [upd_ne (ne_of_none e nD)]; exact k.oth nb e n
  free := fun {b} e => by
    by_cases hb : b = D
    · rw [hb]; exact nD
    · rw [upd_ne hb] at e
      exact k.free e
  pot := fun z => by
    obtain ⟨x, y, e, r⟩ := k.pot z
    exact ⟨x, y, by rw [upd_ne (Ne.symm (pot_new hp nD))]; exact e, r⟩
/-- many nodes for its depth -/
theorem deep_few : ∀ f : Fm, 2 * f.q.2 + 1 ≤ f.q.1 ∧ f.ht ≤ f.q.2 + 1
  | .num _ => ⟨by show 2 * 0 + 1 ≤ 1; decide, by show 1 ≤ 0 + 1; decide⟩
  | .ref _ _ => ⟨by show 2 * 0 + 1 ≤ 1; decide, by show 1 ≤ 0 + 1; decide⟩
  | .pair o l r => by
    obtain ⟨a1, a2⟩ := deep_few l
    obtain ⟨b1, b2⟩ := deep_few r
    have e : (Fm.pair o l r).q.1 = 1 + l.q.1 + r.q.1 := rfl
    have h : (Fm.pair o l r).ht = max l.ht r.ht + 1 := rfl
    have d : (Fm.pair o l r).q.2 = max l.q.2 r.q.2 + 1 := by
      show fmD [l.q, r.q] = _
      unfold fmD
      simp only [List.foldl]
      split <;> split <;> omega
    rw [e, h, d]
    exact ⟨by omega, by omega⟩
  | .cho t s a b => by
    obtain ⟨a1, a2⟩ := deep_few t
    obtain ⟨b1, b2⟩ := deep_few a
    obtain ⟨c1, c2⟩ := deep_few b
    have e : (Fm.cho t s a b).q.1 = 1 + t.q.1 + a.q.1 + b.q.1 := rfl
    have h : (Fm.cho t s a b).ht = max t.ht (max a.ht b.ht) + 1 := rfl
    have d : (Fm.cho t s a b).q.2 = max t.q.2 (max a.q.2 b.q.2) + 1 := by
      show fmD [t.q, a.q, b.q] = _
      unfold fmD
      simp only [List.foldl]
      split <;> split <;> split <;> omega
    rw [e, h, d]
    exact ⟨by omega, by omega⟩
abbrev sRight : Stmt := topA i_law_right
def spRi (K : PySem.W.Frag) (c : Cs) : Sp := fun vs H Q _ => ∃ (p : Addr), vs = [.ref p] ∧ PotAt H p ∧ ∀ H', Kq K c p H H' → Q (.bl true) H'
abbrev menu : List Str := ["a", "n", "u", "sum", "abcdefgh", "item", "inn", "iff"]
section
variable {P : Program} {w : World} {K : PySem.W.Frag} {mg : Str → Option Value} {base : Heap} {c : Cs} {CF CT f fD fT fPt fC fF fA fI fG fX fR fP fq : Addr} {fd fdD fdT fdPt fdC fdF fdA fdI fdG fdX fdR fdP fdq : FuncData}
abbrev nmsRi : List Str := ["_law_pot_here", "_law_names", "_law_spots", "_law_part_here", "_law_many", "_law_other", "_law_made", "_law_every", "_law_turn"]
theorem scRi : FnScope nmsRi ["_law_pot_here"] (defScope sRight) := ⟨rfl, rfl, rfl, by decide +kernel, rfl, by decide +kernel, by decide +kernel⟩
theorem ok_ri (F : FnP K "_law_right" sRight f fd) (T : Cl K c) (B : Fb K mg c CF) (qE : Eqc K c fq) (GE : FnG P w K mg base CX0 54 fq fdq ["self", "other"] (spEqF K c CF 17)) (bE : Binds K fdq ["self", "other"] [])
    (FD : FnP K "_law_draw" sDraw fD fdD) (GD : FnOk P w K mg base CX0 1 fD fdD ["_law_pot_here", "_law_many"] spDraw) (gD : mg "_law_draw" = some (.ref fD))
    (FT : FnP K "_law_taken" sTaken fT fdT) (GT : FnOk P w K mg base CX0 2 fT fdT ["_law_pot_here", "_law_menu", "_law_many"] (spTaken K)) (gT : mg "_law_taken" = some (.ref fT))
    (FPt : FnP K "_law_part" sPart fPt fdPt) (GPt : FnOk P w K mg base CX0 40 fPt fdPt ["_law_pot_here", "_law_modulus", "_law_spots", "_law_nodes"] (spPart K 15)) (gPt : mg "_law_part" = some (.ref fPt))
    (FC : FnP K "_law_chain" sChain fC fdC) (GC : FnOk P w K mg base CX0 4 fC fdC psCn (spChain K)) (gC : mg "_law_chain" = some (.ref fC))
    (FF : FnP K "_law_formula" sLF fF fdF) (GF : FnOk P w K mg base CX0 40 fF fdF ["_law_part_here"] (spLF K c 17)) (gF : mg "_law_formula" = some (.ref fF))
    (FA : FnP K "_law_all" sAll fA fdA) (GA : FnOk P w K mg base CX0 40 fA fdA ["_law_part_here"] (spAll K 17)) (gA : mg "_law_all" = some (.ref fA))
    (FI : FnP K "_law_is" sIs fI fdI) (GI : FnG P w K mg base CX0 60 fI fdI ["_law_made", "_law_part_here"] (spIs K c 17)) (gI : mg "_law_is" = some (.ref fI))
    (FG : FnP K "_law_fits_again" sFA fG fdG) (GG : FnG P w K mg base CX0 20 fG fdG [] (spFA K c)) (gG : mg "_law_fits_again" = some (.ref fG))
    (FX : FnP K "_law_fits_right" sFR fX fdX) (GX : FnG P w K mg base CX0 20 fX fdX psFR (spFR K c 17)) (gX : mg "_law_fits_right" = some (.ref fX))
    (FR : FnP K "_law_put_right" sPR fR fdR) (GR : FnG P w K mg base CX0 61 fR fdR psPR (spPR K c 17)) (gR : mg "_law_put_right" = some (.ref fR))
    (mP : ∀ g, Meth K (clsOf c g) "put" fP) (FP : FunD K "put" "Formula.put" (defArgs sPut) (defBody sPut) (defScope sPut) [] [] fP fdP) (GP : FnOk P w K mg base (L2.CX P w) 26 fP fdP ["self", "number", "formula"] (spPutX K CT c 17))
    (gAll : mg "all" = none) (gRange : mg "range" = none) (NM : ∀ y ∈ menu, Nam y) : FnG P w K mg base CX0 62 f fd ["_law_pot_here"] (spRi K c) := by
  have bD : Binds K fdD ["_law_pot_here", "_law_many"] [] := FD.bindsN fun _ _ _ _ _ _ us hl => match us, hl with | [_, _], _ => rfl
  have bT : Binds K fdT ["_law_pot_here", "_law_menu", "_law_many"] [] := FT.bindsN fun _ _ _ _ _ _ us hl => match us, hl with | [_, _, _], _ => rfl
  have bPt : Binds K fdPt ["_law_pot_here", "_law_modulus", "_law_spots", "_law_nodes"] [] := FPt.bindsN fun _ _ _ _ _ _ us hl => match us, hl with | [_, _, _, _], _ => rfl
  have bC : Binds K fdC psCn [] := FC.bindsN fun _ _ _ _ _ _ us hl => match us, hl with | [_, _, _, _], _ => rfl
  have bF : Binds K fdF ["_law_part_here"] [] := FF.bindsN fun _ _ _ _ _ _ us hl => match us, hl with | [_], _ => rfl
  have bA : Binds K fdA ["_law_part_here"] [] := FA.bindsN fun _ _ _ _ _ _ us hl => match us, hl with | [_], _ => rfl
  have bI : Binds K fdI ["_law_made", "_law_part_here"] [] := FI.bindsN fun _ _ _ _ _ _ us hl => match us, hl with | [_, _], _ => rfl
  have bG : Binds K fdG [] [] := FG.bindsN fun _ _ _ _ _ _ us hl => match us, hl with | [], _ => rfl
  have bX : Binds K fdX psFR [] := FX.bindsN fun _ _ _ _ _ _ us hl => match us, hl with | [_, _, _, _], _ => rfl
  have bR : Binds K fdR psPR [] := FR.bindsN fun _ _ _ _ _ _ us hl => match us, hl with | [_, _, _, _], _ => rfl
  have bP : Binds K fdP ["self", "number", "formula"] [] := FP.bindsN fun _ _ _ _ _ _ us hl => match us, hl with | [_, _, _], _ => rfl
  have nd := scRi.nd
  refine F.okG scRi (fun vs H Q E h => ?_) (fun cdv A outer s H vs Q E hgu hr h => ?_)
  · obtain ⟨p, rfl, _⟩ := h
    rfl
  · obtain ⟨p, rfl, hp, q⟩ := h
    have r1 := hr.mono (show 1 ≤ 61 by decide)
    have r2 := hr.mono (show 2 ≤ 61 by decide)
    have r4 := hr.mono (show 4 ≤ 61 by decide)
    have r20 := hr.mono (show 20 ≤ 61 by decide)
    have r26 := hr.mono (show 26 ≤ 61 by decide)
    have r40 := hr.mono (show 40 ≤ 61 by decide)
    have r54 := hr.mono (show 54 ≤ 61 by decide)
    have r60 := hr.mono (show 60 ≤ 61 by decide)
    refine ⟨_, PSs.nox (pss_cons (ps_set (i := 1) nd rfl (Or.inr rfl) (pe_call GT r2 rfl gT FT.kp bT .nil pass0 (pa_cons (pv 0) (pa_cons (pe_lst (pa_cons pe_str (pa_cons pe_str (pa_cons pe_str (pa_cons pe_str (pa_cons pe_str (pa_cons pe_str (pa_cons pe_str (pa_cons pe_str pa_nil))))))))) (pa_cons (pe_op op_add pe_int (pe_call GD r1 rfl gD FD.kp bD .nil pass0 (pa_cons (pv 0) (pa_cons pe_int pa_nil)))) pa_nil)))))
        (pss_cons (ps_set (i := 2) nd rfl (Or.inl rfl) (pe_tup (pa_cons (pv 1) (pa_cons (pv 1) (pa_cons (pv 1) pa_nil)))))
        (pss_cons (ps_par (i := 3) (j := 4) (by rfl) nd rfl rfl (by decide) rfl rfl (pa_cons (pe_call GPt r40 rfl gPt FPt.kp bPt .nil pass0 (pa_cons (pv 0) (pa_cons pe_int (pa_cons (pv 2) (pa_cons (pe_op op_add pe_int (pe_call GD r1 rfl gD FD.kp bD .nil pass0 (pa_cons (pv 0) (pa_cons pe_int pa_nil)))) pa_nil))))) (pa_cons (pe_op op_add pe_int (pe_call GD r1 rfl gD FD.kp bD .nil pass0 (pa_cons (pv 0) (pa_cons pe_int pa_nil)))) pa_nil)) (by rfl))
        (pss_cons (ps_if (pt_cmpR op_eq (pe_call GD r1 rfl gD FD.kp bD .nil pass0 (pa_cons (pv 0) (pa_cons pe_int pa_nil))) pe_int (nomark _)) (pss_one (ps_set (i := 3) nd rfl (Or.inl rfl) (pe_call GC r4 rfl gC FC.kp bC .nil pass0 (pa_cons (pv 0) (pa_cons pe_int (pa_cons (pv 2) (pa_cons (pv 4) pa_nil))))))) pss_nil)
        (pss_cons (ps_set (i := 5) nd rfl (Or.inl rfl) (pe_call GPt r40 rfl gPt FPt.kp bPt .nil pass0 (pa_cons (pv 0) (pa_cons pe_int (pa_cons (pv 2) (pa_cons (pe_op op_add pe_int (pe_call GD r1 rfl gD FD.kp bD .nil pass0 (pa_cons (pv 0) (pa_cons pe_int pa_nil)))) pa_nil))))))
        (pss_cons (ps_asg (pe_tup (pa_cons (pe_call GF r40 rfl gF FF.kp bF .nil pass0 (pa_cons (pv 3) pa_nil)) (pa_cons (pe_call GA r40 rfl gA FA.kp bA .nil pass0 (pa_cons (pv 3) pa_nil)) pa_nil))) (pg_tup rfl (pgs_cons (pg_name (i := 6) nd rfl (Or.inr rfl)) (pgs_cons (pg_name (i := 7) nd rfl (Or.inr rfl)) pgs_nil))))
        (pss_cons (ps_if (PW.pt (pw_or (pt_not (pt_val (pe_callG GI hgu r60 rfl gI FI.kp bI pass0 (pa_cons (pv 6) (pa_cons (pv 3) pa_nil))))) (pw_or1 (pt_not (pt_val (pe_callG0 GG hgu r20 rfl gG FG.kp bG pass0)))))) (pss_one (ps_ret pe_bl)) pss_nil)
        (pss_cons (ps_if (pt_not (pt_val (pe_callB (cr_all rfl) rfl gAll (by decide +kernel) (pa_cons (pe_lc (own := [("_law_turn", 8)]) (g := gName 8) (tt := tYes) (te := tCall (spFR K c 17) [] E0 (tCons (tVar 0) (tCons (tVar 6) (tCons (tVar 7) (tCons (tVar 1) tNil))))) rfl nd (pi_range1 rfl gRange (pa_cons pe_int pa_nil)) (blkOk_by (N := nmsRi) (sc := defScope sRight) (by decide +kernel)) (fun _ _ _ _ _ => by exact pg_name (i := 8) nd rfl (Or.inl rfl)) (fun _ _ _ _ _ => by exact pts_nil) (fun _ _ _ _ _ => by exact pe_callG GX hgu r20 rfl gX FX.kp bX pass0 (pa_cons (pv 0) (pa_cons (pv 6) (pa_cons (pv 7) (pa_cons (pv 1) pa_nil)))))) pa_nil)))) (pss_one (ps_ret pe_bl)) pss_nil)
        (pss_cons (ps_if (PW.pt (pw_or (pt_not (pt_val (pe_callG GR hgu hr rfl gR FR.kp bR pass0 (pa_cons (pv 0) (pa_cons (pv 6) (pa_cons (pv 3) (pa_cons (pv 5) pa_nil))))))) (pw_or1 (pt_not (pt_val (pe_callG GI hgu r60 rfl gI FI.kp bI pass0 (pa_cons (pv 6) (pa_cons (pv 3) pa_nil)))))))) (pss_one (ps_ret pe_bl)) pss_nil)
        (pss_one (ps_ret (pe_and (pe_cmpR (op_eqIs (C := clsOf c) GE qE.eq bE pass0 hgu r54) (pe_methI (ι := Fm) (C := clsOf c) (f := fun _ => fP) (fd := fun _ => fdP) (sp := fun _ => spPutX K CT c 17) (E := E0) (pv 6) (fun i => (T.at_ i).cl) mP (fun _ => GP) r26 (fun _ => bP) .nil passC (pa_cons pe_int (pa_cons (pe_call GF r40 rfl gF FF.kp bF .nil pass0 (pa_cons (pv 5) pa_nil)) pa_nil))) (pe_call GF r40 rfl gF FF.kp bF .nil pass0 (pa_cons (pv 5) pa_nil)) (nomark _)) (pe_one (pe_cmpR (op_eqIs (C := clsOf c) GE qE.eq bE pass0 hgu r54) (pe_methI (ι := Fm) (C := clsOf c) (f := fun _ => fP) (fd := fun _ => fdP) (sp := fun _ => spPutX K CT c 17) (E := E0) (pv 6) (fun i => (T.at_ i).cl) mP (fun _ => GP) r26 (fun _ => bP) .nil passC (pa_cons pe_int (pa_cons (pv 6) pa_nil))) (pv 6) (nomark _))))))))))))))), ?_⟩
    walk_at "rd"
    refine ⟨Rd.small (by show 8 ≤ 100000; decide), fun pm nm => ?_⟩
    have s1 := same_new (o := HO.lst ([V.str "a", V.str "n", V.str "u", V.str "sum", V.str "abcdefgh", V.str "item", V.str "inn", V.str "iff"])) nm
    have t1 := upd_same (H := H) (a := pm) (o := HO.lst ([V.str "a", V.str "n", V.str "u", V.str "sum", V.str "abcdefgh", V.str "item", V.str "inn", V.str "iff"]))
    generalize upd H pm (HO.lst ([V.str "a", V.str "n", V.str "u", V.str "sum", V.str "abcdefgh", V.str "item", V.str "inn", V.str "iff"])) = H1 at s1 t1 ⊢
    have hp1 := pot_same hp s1
    have npm := pot_new hp nm
    walk_at "rd"
    refine ⟨p, 3, rfl, hp1, by decide, by decide +kernel, fun d H2 d0 dl p2 b2 => ?_⟩
    obtain ⟨nn, en⟩ : ∃ nn : Nat, 1 + d = ((nn : Nat) : Int) := ⟨(1 + d).toNat, by omega⟩
    walk_at "rd"
    refine ⟨p, pm, menu, nn, by rw [← en]; rfl, p2, b2 _ _ npm t1, npm, by show nn ≤ 8; omega, by decide, fun r H3 ys p3 b3 nr er ly sub => ?_⟩
    have nrp : r ≠ p := pot_new p2 nr
    have k13 : Kq K c p H H3 := (kq_same s1).trans ((kq_pot hp1 b2 p2).trans (kq_pot p2 b3 p3))
    walk_at "rd"
    refine ⟨Rd.small (by show 3 ≤ 100000; decide), fun ps ns => ?_⟩
    have s4 := same_new (o := HO.tup ([V.ref r, V.ref r, V.ref r])) ns
    have t4 := upd_same (H := H3) (a := ps) (o := HO.tup ([V.ref r, V.ref r, V.ref r]))
    generalize upd H3 ps (HO.tup ([V.ref r, V.ref r, V.ref r])) = H4 at s4 t4 ⊢
    walk_at "rd"
    have p4 := pot_same p3 s4
    have er4 := s4 _ _ er
    have spt : Spots H4 p r ys := ⟨er4, nrp, fun y hy => ⟨NM y (sub y hy), trivial⟩, by omega⟩
    have sp3 : Spot3 K H4 p ps r r r ys ys ys := ⟨SqT.of t4, spt, spt, spt⟩
    refine ⟨p, 15, rfl, p4, by decide, by decide +kernel, fun d5 H5 e0 el p5 b5 => ?_⟩
    obtain ⟨n5, en5⟩ : ∃ n5 : Nat, 1 + d5 = ((n5 : Nat) : Int) := ⟨(1 + d5).toNat, by omega⟩
    walk_at "rd"
    refine ⟨p, ps, r, r, r, 9, n5, ys, ys, ys, by rw [← en5]; rfl, p5, by decide, by decide, sp3.but p4 b5, by omega, by omega, by omega, fun fA_ vA H6 drA lA => ?_⟩
    walk_at "rd"
    have b46 := b5.trans drA.but
    refine ⟨p, 3, rfl, drA.pot, by decide, by decide +kernel, fun d7 H7 f0 fl p7 b7 => ?_⟩
    walk_at "rd"
    refine ⟨_, _, rfl, ?_⟩
    obtain ⟨n7, en7⟩ : ∃ n7 : Nat, 6 + d7 = ((n7 : Nat) : Int) := ⟨(6 + d7).toNat, by omega⟩
    have b47 := b46.trans b7
    have tA7 := drA.at_.kp (kp_pot drA.pot b7)
    obtain ⟨dfA, dhA⟩ := deep_few fA_
    walk_at "rd"
    refine ⟨p, 3, rfl, p7, by decide, by decide +kernel, fun d8 H8 g0 gl p8 b8 => ?_⟩
    have b48 := b47.trans b8
    have tA8 := tA7.kp (kp_pot p7 b8)
    walk_at "rd"
    refine Rd.ifB (fun _ => ?_) (fun _ => ?_)
    walk_at "rd"
    refine ⟨p, ps, r, r, r, ys, ys, ys, n7, by rw [← en7]; rfl, p8, sp3.but p4 b48, by omega, fun fm v H9 p9 b9 tf og lq1 lq2 lht => ?_⟩
    have q25 : fm.q.1 ≤ 25 := by omega
    have q8 : fm.q.2 ≤ 8 := by omega
    have h9 : fm.ht ≤ 9 := by omega
    have b49 := b48.trans b9
    walk_at "rd"
    rotate_left
    obtain ⟨fm, v, H9, p9, b49, tf, og, q25, q8, h9, e1, e2⟩ : ∃ (fm : Fm) (v : V) (H9 : Hp), PotAt H9 p ∧ But p H4 H9 ∧ TpAt K H9 fm v ∧ Okf fm ∧ fm.q.1 ≤ 25 ∧ fm.q.2 ≤ 8 ∧ fm.ht ≤ 9 ∧ v = vA ∧ H9 = H8 := ⟨fA_, vA, H8, p8, b48, tA8, drA.ok, by omega, by omega, by omega, rfl, rfl⟩
    subst e1 e2
    walk_at "rd"
    all_goals (
      refine ⟨p, 7, rfl, p9, by decide, by decide +kernel, fun d10 H10 h0 hl p10 b10 => ?_⟩
      obtain ⟨n10, en10⟩ : ∃ n10 : Nat, 1 + d10 = ((n10 : Nat) : Int) := ⟨(1 + d10).toNat, by omega⟩
      walk_at "rd"
      refine ⟨p, ps, r, r, r, 9, n10, ys, ys, ys, by rw [← en10]; rfl, p10, by decide, by decide, sp3.but p4 (b49.trans b10), by omega, by omega, by omega, fun gm u H11 dr11 l11 => ?_⟩
      obtain ⟨dg1, dg2⟩ := deep_few gm
      have b411 := (b49.trans b10).trans dr11.but
      have tf11 := (tf.kp (kp_pot p9 b10)).kp (kp_pot p10 dr11.but)
      walk_at "rd"
      refine ⟨fm, v, rfl, tf11, og, by omega, ⟨by omega, by omega⟩, fun vm H12 lm nw => ?_⟩
      walk_at "rd"
      refine ⟨fm, v, rfl, tf11.kp (kp_same nw.same), og, by omega, by omega, fun pe us H12b s12b npe eEb tEb => ?_⟩
      walk_at "rd"
      refine ⟨Rd.small (by show 2 ≤ 100000; decide), fun pt npt => ?_⟩
      have sT := same_new (o := HO.tup [vm, V.ref pe]) npt
      have tT := upd_same (H := H12b) (a := pt) (o := HO.tup [vm, V.ref pe])
      generalize upd H12b pt (.tup [vm, V.ref pe]) = H13 at sT tT ⊢
      have s13 := s12b.trans sT
      have eE := sT _ _ eEb
      have tE := tEb.kp (kp_same sT)
      refine ⟨pt, _, rfl, SqT.of tT, rfl, ?_⟩
      have s113 := nw.same.trans s13
      have p13 := pot_same dr11.pot s113
      have hf13 := nw.at_.kp (kp_same s13)
      have tf13 := tf11.kp (kp_same s113)
      have tg13 := dr11.at_.kp (kp_same s113)
      have er13 : H13 r = some (.lst (ys.map V.str)) := s113 _ _ (b411 _ _ nrp er4)
      have nep : pe ≠ p := pot_new (pot_same dr11.pot nw.same) npe
      have kAll : Kq K c p H H13 := ((k13.trans (kq_same s4)).trans (kq_pot p4 b411 dr11.pot)).trans (kq_same s113)
      have o2 := dr11.ok
      walk_at "rd"
      refine ⟨fm, vm, v, lm, rfl, hf13, tf13, og, by omega, ⟨by omega, by omega⟩, fun H14 k14 => ?_⟩
      refine ⟨true, rfl, ?_⟩
      refine iteF ?_
      walk_at "rd"
      refine ⟨rfl, fun H15 k15 => ?_⟩
      refine ⟨true, rfl, ?_⟩
      refine iteF ?_
      have k35 : Kq K c p H13 H15 := (k14.trans k15).kq
      have p15 := k35.pot p13
      have hf15 := k35.fm og hf13
      have tf15 := tf13.kq k35 p13
      have tg15 := tg13.kq k35 p13
      have eE15 : H15 pe = some (.lst us) := k35.oth nep eE fun _ _ _ z => by cases z
      have tE15 := tE.kq k35 p13
      have er15 : H15 r = some (.lst (ys.map V.str)) := k35.oth nrp er13 fun _ _ _ z => by cases z
      walk_at "rd"
      refine ⟨3, rfl, by decide, by decide, ?_⟩
      rw [show (3 : Int).toNat = 3 from rfl]
      refine lcjB ?_
      have nbl : ∀ {k : Nat} {acc : List V}, acc = List.replicate k (V.bl true) → ∀ a r, acc ≠ .ref a :: r := fun {k acc} e a r e2 => by
        rw [e] at e2
        cases k with
        | zero => cases e2
        | succ k => cases e2
      refine lcRun2 walk_range (fun k acc G => Kq K c p H15 G ∧ acc = List.replicate k (V.bl true)) rfl (by decide) (fun k G x G' z => z.1) (fun _ _ _ _ => trivial) (fun D n => ⟨kq_same (same_new n), rfl⟩) (fun k acc y G D n eD z => ⟨?_, z.2⟩)
        (fun k y acc G yes no hk hY al z hy hn => ?_) fun D acc G hD al z eD => ?_
      · refine z.1.write p15 n eD fun a r e => ?_
        rw [e] at z
        exact nbl z.2 a (r ++ [y]) rfl
      · obtain ⟨kG, rfl⟩ := z
        refine yesT ?_
        walk_at "rd"
        have eEG : G pe = some (.lst us) := kG.oth nep eE15 fun _ _ _ z => by cases z
        have erG : G r = some (.lst (ys.map V.str)) := kG.oth nrp er15 fun _ _ _ z => by cases z
        refine ⟨p, pe, r, fm, vm, lm, us, ys, rfl, kG.pot p15, kG.fm og hf15, og, by omega, by omega, eEG, nep, tE15.kq kG p15, erG, nrp, by omega, fun x hx => (NM x (sub x hx)).sok, fun G' k' => ?_⟩
        exact hy (.bl true) G' ⟨⟨kG.trans k', by rw [List.replicate_succ']⟩, fun D n e => k'.oth (pot_new p15 n) e fun _ _ _ z => by cases z⟩
      obtain ⟨kG, rfl⟩ := z
      walk_at "rd"
      refine ⟨D, List.replicate 3 true, rfl, SqL.of eD, ?_⟩
      walk_at "rd"
      refine iteF ?_
      have pG := kG.pot p15
      have hfG := kG.fm og hf15
      have tfG := tf15.kq kG p15
      have tgG := tg15.kq kG p15
      walk_at "rd"
      refine ⟨p, fm, gm, vm, v, u, lm, rfl, pG, hfG, tfG, tgG, og, o2, ⟨by omega, by omega⟩, ⟨by omega, by omega⟩, by omega, by omega, fun X1 x1 => ?_⟩
      refine ⟨true, rfl, ?_⟩
      refine iteF ?_
      have pX := x1.pot pG
      have hfX := x1.fm og hfG
      have tfX := tfG.kq x1 pG
      have tgX := tgG.kq x1 pG
      walk_at "rd"
      refine ⟨fm, vm, v, lm, rfl, hfX, tfX, og, by omega, ⟨by omega, by omega⟩, fun X2 x2 => ?_⟩
      refine ⟨true, rfl, ?_⟩
      refine iteF ?_
      have hf2 := x2.fm og hfX
      have tg2 := tgX.kf x2
      obtain ⟨a, dx, fs, g1, p1', r1', rfl, el', ha, b1'⟩ := id hf2.obj
      walk_at "rd"
      refine ⟨fm, a, dx, fs, rfl, ha, b1'.meth "put", ?_⟩
      walk_at "rd"
      refine ⟨gm, u, rfl, tg2, o2, by omega, ⟨by omega, by omega⟩, fun x3 X3 l3 nw3 => ?_⟩
      walk_at "rd"
      have p0 : ∀ z : Fm, fm.put 0 z = z := fun z => by cases fm <;> rfl
      have q0 := q_pos fm
      refine ⟨fm, _, lm, 0, gm, x3, l3, rfl, hf2.kp (kp_same nw3.same), og, by omega, nw3.at_, o2, ⟨by omega, by omega⟩, by omega, by omega, by rw [p0]; omega, fun _ u4 X4 l4 k4 fu => ?_, fun h => absurd h (by rw [p0]; omega)⟩
      rw [p0] at fu
      walk_at "rd"
      have tg4 := (tg2.kp (kp_same nw3.same)).kf k4
      refine ⟨gm, u, rfl, tg4, o2, by omega, ⟨by omega, by omega⟩, fun x5 X5 l5 nw5 => ?_⟩
      walk_at "rd"
      refine neF T B qE (fu.kp (kp_same nw5.same)) nw5.at_ o2 o2 (by omega) fun X6 e6 => ?_
      refine ⟨_, rfl, ?_⟩
      refine ifY (decide_eq_true rfl) ?_
      have s56 := nw5.same.trans e6
      have hf6 := (k4.fm og (hf2.kp (kp_same nw3.same))).kp (kp_same s56)
      obtain ⟨a6, dx6, fs6, g6, p6', r6', e6', _, ha6, b6'⟩ := id hf6.obj
      cases e6'
      walk_at "rd"
      refine ⟨fm, a, dx6, fs6, rfl, ha6, b6'.meth "put", ?_⟩
      walk_at "rd"
      refine ⟨fm, _, lm, 0, fm, _, lm, rfl, hf6, og, by omega, hf6, og, ⟨by omega, by omega⟩, by omega, by omega, by rw [p0]; omega, fun _ u7 X7 l7 k7 f7 => ?_, fun h => absurd h (by rw [p0]; omega)⟩
      rw [p0] at f7
      walk_at "rd"
      refine neF T B qE f7 (k7.fm og hf6) og og (by omega) fun X8 e8 => ?_
      rw [decide_eq_true rfl]
      exact q X8 (kAll.trans (k35.trans (kG.trans (x1.trans (x2.kq.trans ((kq_same nw3.same).trans (k4.kq.trans ((kq_same s56).trans (k7.kq.trans (kq_same e8))))))))))
      )
end
end K12

namespace K12
open PySem PySem.Spec PyProof.Rows L2
local macro_rules | `(tactic| walk_at "rd1") => `(tactic| first
  | (with_reducible refine Rd.seq ?_) | (with_reducible refine Rd.asg ?_) | (with_reducible refine Rd.ret ?_) | (with_reducible refine Rd.nxt ?_) | (with_reducible refine Rd.ifS ?_)
  | (with_reducible refine Rd.op ?_) | (with_reducible refine Rd.un ?_) | (with_reducible refine Rd.cb ?_) | (with_reducible refine Rd.cons ?_) | (with_reducible refine Rd.nil ?_) | (with_reducible refine Rd.ifx ?_)
  | (with_reducible refine Rd.test ?_) | (with_reducible refine Rd.testB ?_) | (with_reducible refine Rd.notT ?_) | (with_reducible refine Rd.isB ?_) | (with_reducible refine Rd.lst ?_) | (with_reducible refine Rd.tup ?_)
  | (with_reducible refine Rd.andV ?_) | (with_reducible refine Rd.orV ?_) | (with_reducible refine Rd.notV ?_) | (with_reducible refine Rd.andT ?_) | (with_reducible refine Rd.orT ?_) | (with_reducible refine Rd.chain ?_)
  | (with_reducible refine Rd.m0 ?_) | (with_reducible refine Rd.m1 ?_) | (with_reducible refine Rd.bm0 ?_) | (with_reducible refine Rd.bm ?_) | (with_reducible refine Rd.sl ?_) | (with_reducible refine Rd.part ?_) | (with_reducible refine Rd.part0 ?_) | (with_reducible refine Rd.isI ?_)
  | (with_reducible refine Rd.fmt ?_) | (with_reducible refine Rd.fmtRD ?_) | (with_reducible refine Rd.meth ?_) | (with_reducible refine makeG ?_) | (with_reducible refine Rd.prop ?_) | (with_reducible refine Rd.js ?_) | (with_reducible refine Rd.js0 ?_) | (with_reducible refine Rd.par ?_) | (with_reducible refine Rd.star ?_) | (with_reducible refine lcR1 ?_) | (with_reducible refine lcR2 ?_) | (with_reducible refine Rd.fld ?_) | (with_reducible refine Rd.sfld ?_) | (with_reducible refine Rd.expr ?_) | (with_reducible refine L2.isNR ?_) | (with_reducible refine L2.methI ?_) | (with_reducible refine Rd.forZ ?_)
  | (with_reducible refine Rd.forEA ?_) | (with_reducible refine Rd.forR1 ?_) | (with_reducible refine Rd.forR2 ?_) | (with_reducible refine Rd.forL ?_) | (with_reducible refine Rd.forT ?_)
  | (with_reducible refine Rd.call ?_) | (with_reducible refine Rd.asgG ?_) | (with_reducible refine Rd.gNm ?_) | (with_reducible refine Rd.gSb ?_) | (with_reducible refine Rd.gC ?_) | (with_reducible refine Rd.gN ?_)
  | ((with_reducible refine' Rd.var ?hv ?_); (case hv => exact rfl)) | (with_reducible refine Rd.c ?_) | (with_reducible refine Rd.i0 ?_) | (with_reducible refine Rd.neg ?_)
  | ((with_reducible refine' Rd.iC ?hc ?_); (case hc => first | (show (0 : Int) < _; decide) | exact ⟨by decide, by decide⟩ | exact ⟨by decide, by decide, by decide⟩ | exact .inl ⟨by decide, by decide⟩ | exact .inr ⟨by decide, by decide⟩ | exact .inl ⟨by omega, by omega⟩ | (show (0 : Int) < _; omega) | exact ⟨by omega, by omega⟩))
  | ((with_reducible refine' Rd.eqS ?hc ?_); (case hc => rfl)) | ((with_reducible refine' Rd.neS ?hc ?_); (case hc => rfl)))
local macro_rules | `(tactic| walk_at "rd") => `(tactic| repeat walk_at "rd1")
abbrev sLaw : Stmt := topA ilaw
def spLaw (K : PySem.W.Frag) : Sp := fun vs H Q _ => ∃ (a : Addr) (ns : List Int), vs = [.ref a] ∧ SqL K H a (ns.map V.int) ∧ ns.length ≤ 63 ∧ ∀ H', Q (.bl true) H'
theorem four (n : Nat) : ∃ J : Nat, J ≤ 4 ∧ (if (if (n : Int) < 4 then (n : Int) else 4) > 1 then (if (n : Int) < 4 then (n : Int) else 4) else 1) = (J : Int) := by
  by_cases h : (n : Int) < 4
  · rw [if_pos h]
    by_cases g : (n : Int) > 1
    · exact ⟨n, by omega, if_pos g⟩
    · exact ⟨1, by omega, if_neg g⟩
  · rw [if_neg h]
    exact ⟨4, by omega, rfl⟩
theorem sql_kg {K : PySem.W.Frag} {c : Cs} {p : Addr} {H H' : Hp} {a : Addr} {xs : List V} (k : Kq K c p H H') (ne : a ≠ p) (h : SqL K H a xs) : SqL K H' a xs := by
  rcases h with (h | ⟨o, h⟩) | h
  · exact .inl (.inl (k.oth ne h (fun _ _ _ z => by cases z)))
  · exact .inl (.inr ⟨o, k.oth ne h (fun _ _ _ z => by cases z)⟩)
  · exact .inr h
theorem sql_upd {K : PySem.W.Frag} {H : Hp} {a D : Addr} {o : HO} {xs : List V} (ne : a ≠ D) (h : SqL K H a xs) : SqL K (upd H D o) a xs := by
  rcases h with (h | ⟨o, h⟩) | h
  · exact .inl (.inl (by rw [upd_ne ne]; exact h))
  · exact .inl (.inr ⟨o, by rw [upd_ne ne]; exact h⟩)
  · exact .inr h
/-- a list that is there is not at a free place, or it stands in the text -/
theorem sql_ne {K : PySem.W.Frag} {H : Hp} {a D : Addr} {xs : List V} (h : SqL K H a xs) (hD : H D = none) : a ≠ D ∨ ∀ H' : Hp, SqL K H' a xs := by
  rcases h with (h | ⟨o, h⟩) | h
  · exact .inl (ne_of_none h hD)
  · exact .inl (ne_of_none h hD)
  · exact .inr fun H' => .inr h
abbrev nmsW : List Str := ["_law_script", "_law_k", "_law_pot_here", "_law_turn"]
section
variable {P : Program} {w : World} {K : PySem.W.Frag} {mg : Str → Option Value} {base : Heap} {c : Cs} {f fP fR : Addr} {fd fdP fdR : FuncData}
theorem scLaw : FnScope nmsW ["_law_script"] (defScope sLaw) := ⟨rfl, rfl, rfl, by decide +kernel, rfl, by decide +kernel, by decide +kernel⟩
theorem ok_law (F : FnP K "law" sLaw f fd) (FP : FnP K "_law_pot" sPot fP fdP) (FR : FnP K "_law_right" sRight fR fdR) (GP : FnOk P w K mg base CX0 1 fP fdP ["_law_script", "_law_k"] (spPot K)) (GR : FnG P w K mg base CX0 62 fR fdR ["_law_pot_here"] (spRi K c))
    (hP : mg "_law_pot" = some (.ref fP)) (hR : mg "_law_right" = some (.ref fR)) (gRange : mg "range" = none) (gMax : mg "max" = none) (gMin : mg "min" = none) (gLen : mg "len" = none) (gAll : mg "all" = none) : FnG P w K mg base CX0 63 f fd ["_law_script"] (spLaw K) := by
  have bP : Binds K fdP ["_law_script", "_law_k"] [] := FP.bindsN fun _ _ _ _ _ _ us hl => match us, hl with | [_, _], _ => rfl
  have bR : Binds K fdR ["_law_pot_here"] [] := FR.bindsN fun _ _ _ _ _ _ us hl => match us, hl with | [_], _ => rfl
  have nd := scLaw.nd
  refine F.okG scLaw (fun vs H Q E h => ?_) (fun cdv A outer s H vs Q E hgu hr h => ?_)
  · obtain ⟨a, ns, rfl, _⟩ := h
    rfl
  · obtain ⟨a, ns, rfl, hS, hl, q⟩ := h
    have r1 := hr.mono (show 1 ≤ 62 by decide)
    refine ⟨_, PSs.nox (pss_cons (ps_for PassesOwn.never rfl (pi_range1 rfl gRange (pa_cons (pe_callB (call_max2 rfl) rfl gMax boot_max (pa_cons pe_int (pa_cons (pe_callB (call_min2 rfl) rfl gMin (by decide +kernel) (pa_cons pe_int (pa_cons (pe_callB call_len rfl gLen boot_len (pa_cons (pv 0) pa_nil)) pa_nil))) pa_nil))) pa_nil)) (pg_name (i := 1) nd rfl (Or.inl rfl)) (pss_cons (ps_set (i := 2) nd rfl (Or.inr rfl) (pe_call GP r1 rfl hP FP.kp bP .nil pass0 (pa_cons (pv 0) (pa_cons (pv 1) pa_nil))))
        (pss_one (ps_if (pt_not (pt_val (pe_callB (cr_all rfl) rfl gAll (by decide +kernel) (pa_cons (pe_lc (own := [("_law_turn", 3)]) (g := gName 3) (tt := tYes) (te := tCall (spRi K c) [] E0 (tCons (tVar 2) tNil)) rfl nd (pi_range1 rfl gRange (pa_cons pe_int pa_nil)) (blkOk_by (N := nmsW) (sc := defScope sLaw) (by decide +kernel)) (fun _ _ _ _ _ => by exact pg_name (i := 3) nd rfl (Or.inl rfl)) (fun _ _ _ _ _ => by exact pts_nil) (fun _ _ _ _ _ => by exact pe_callG GR hgu hr rfl hR FR.kp bR pass0 (pa_cons (pv 2) pa_nil))) pa_nil)))) (pss_one (ps_ret pe_bl)) pss_nil))))
        (pss_one (ps_ret pe_bl))), ?_⟩
    walk_at "rd"
    refine ⟨_, _, rfl, .inl ⟨_, hS, rfl⟩, ?_⟩
    walk_at "rd"
    refine ⟨_, _, rfl, ?_⟩
    walk_at "rd"
    refine ⟨_, _, rfl, ?_⟩
    walk_at "rd"
    obtain ⟨J, hJ, eJ⟩ := four (ns.map V.int).length
    refine ⟨_, rfl, by rw [eJ]; omega, by rw [eJ]; omega, ?_⟩
    rw [eJ]
    refine for_it walk_range (fun i σ H' => (∃ b e, σ = [some (V.ref a), b, e, none]) ∧ SqL K H' a (ns.map V.int)) ⟨⟨_, _, rfl⟩, hS⟩ (fun _ _ _ _ _ => trivial) (fun i x σ H' G hi h hy => ?_) (fun σ H' h => ?_)
    · obtain ⟨⟨b, e, rfl⟩, z⟩ := h
      obtain ⟨rfl, rfl⟩ := hy
      rw [Int.toNat_natCast] at hi
      walk_at "rd"
      refine ⟨a, ns, i, by show [V.ref a, V.int (0 + (i : Int))] ++ [] = _; rw [Int.zero_add]; rfl, z, hl, by omega, fun p H2 hp s2 pt2 => ?_⟩
      walk_at "rd"
      refine ⟨3, rfl, by decide, by decide, ?_⟩
      rw [show (3 : Int).toNat = 3 from rfl]
      have z2 : SqL K H2 a (ns.map V.int) := z.ext s2
      have nap := sql_ne z hp
      have keep : ∀ {H4 : Hp}, Kq K c p H2 H4 → SqL K H4 a (ns.map V.int) := fun k => nap.elim (fun ne => sql_kg k ne z2) fun al => al _
      refine lcjB ?_
      have nbl : ∀ {k : Nat} {acc : List V}, acc = List.replicate k (V.bl true) → ∀ a r, acc ≠ .ref a :: r := fun {k acc} e a r e2 => by
        rw [e] at e2
        cases k with
        | zero => cases e2
        | succ k => cases e2
      refine lcRun2 walk_range (fun k acc G => Kq K c p H2 G ∧ acc = List.replicate k (V.bl true)) rfl (by decide) (fun k G x G' z => z.1) (fun _ _ _ _ => trivial) (fun D n => ⟨kq_same (same_new n), rfl⟩) (fun k acc y G D n eD z => ⟨?_, z.2⟩)
        (fun k y acc G yes no hk hY al z hy hn => ?_) fun D acc G hD al z eD => ?_
      · refine z.1.write pt2 n eD fun a r e => ?_
        rw [e] at z
        exact nbl z.2 a (r ++ [y]) rfl
      · obtain ⟨kG, rfl⟩ := z
        refine yesT ?_
        walk_at "rd"
        refine ⟨p, rfl, kG.pot pt2, fun G' k' => ?_⟩
        exact hy (.bl true) G' ⟨⟨kG.trans k', by rw [List.replicate_succ']⟩, fun D n e => k'.oth (pot_new pt2 n) e fun _ _ _ z => by cases z⟩
      obtain ⟨kG, rfl⟩ := z
      walk_at "rd"
      refine ⟨D, List.replicate 3 true, rfl, SqL.of eD, ?_⟩
      walk_at "rd"
      refine iteF ?_
      walk_at "rd"
      exact ⟨⟨_, _, rfl⟩, keep kG⟩
    · obtain ⟨⟨b, e, rfl⟩, z⟩ := h
      walk_at "rd"
      exact q _
end
end K12

namespace K12
open PySem PySem.Spec PyProof.Rows L2
def csK (K : PySem.W.Frag) : Cs := ⟨He.ga K "Number", fun w => He.ga K (refName w), fun o => He.ga K (pairName o), He.ga K "Choice"⟩
theorem ref_mem : ∀ w, refName w ∈ conc
  | 0 => by decide +kernel
  | 1 => by decide +kernel
  | _ + 2 => by show ("Down" : Str) ∈ conc; decide +kernel
theorem pair_mem : ∀ o, pairName o ∈ conc
  | 0 => by decide +kernel
  | 1 => by decide +kernel
  | 2 => by decide +kernel
  | _ + 3 => by show ("Same" : Str) ∈ conc; decide +kernel
theorem name_mem : ∀ f : Fm, nameOf f ∈ conc
  | .num _ => by show ("Number" : Str) ∈ conc; decide +kernel
  | .ref w _ => ref_mem w
  | .pair o _ _ => pair_mem o
  | .cho .. => by show ("Choice" : Str) ∈ conc; decide +kernel
theorem cls_name {K : PySem.W.Frag} (f : Fm) : clsOf (csK K) f = He.ga K (nameOf f) := by cases f <;> rfl
theorem own_ok {K : PySem.W.Frag} {C f : Addr} {m : Str} (h : ownB K C f m = true) : OwnM K C m f := by
  obtain ⟨h1, h2⟩ := He.ba h
  exact ⟨He.eqO_ok h1, h2⟩
/-- what the head says of one class -/
structure One (K : PySem.W.Frag) (x : Str) : Prop where
  mem : ∀ m ∈ mems, OwnM K (He.ga K x) m (mF K m)
  ne : PySem.W.findIn K (.ref (He.ga K x)) "__ne__" = some (some (.builtin "object.__ne__"))
theorem one_ok {K : PySem.W.Frag} {x : Str} (h : clsB K x = true) : One K x := by
  obtain ⟨h1, h2⟩ := He.ba h
  exact ⟨fun m hm => own_ok (List.all_eq_true.mp h1 m hm), He.eqO_ok h2⟩
theorem nam_ok : ∀ x ∈ menu, x.length ≤ 8 ∧ x ∉ reserved ∧ Txt.isascii x = true ∧ Txt.isalpha x = true ∧ Txt.islower x = true ∧ PyData.strOk x = true ∧ (PyData.str x).shown.length ≤ 20 ∧ PyData.strOk (PyData.str x).shown = true := by decide +kernel
theorem nam_of (x : Str) (h : x ∈ menu) : Nam x := by
  obtain ⟨a, b, c, d, e, f, g, i⟩ := nam_ok x h
  exact ⟨a, b, c, d, e, f, g, i⟩
theorem xc_of {K : PySem.W.Frag} {C : Addr} (g1 : PySem.W.specialIn K (.builtin "object.__class__") "__get__" = some (some (.builtin "getset_descriptor.__get__"))) (g2 : PySem.W.takesIn K (.builtin "object.__class__") = some true) (q : xcB K C = true) : XC K C := by
  obtain ⟨q1, q⟩ := He.ba q
  obtain ⟨q2, q⟩ := He.ba q
  obtain ⟨q3, q⟩ := He.ba q
  obtain ⟨q4, q⟩ := He.ba q
  obtain ⟨q5, q⟩ := He.ba q
  obtain ⟨q6, q⟩ := He.ba q
  obtain ⟨q7, q⟩ := He.ba q
  obtain ⟨q8, q⟩ := He.ba q
  obtain ⟨q9, q⟩ := He.ba q
  obtain ⟨q10, q11⟩ := He.ba q
  exact ⟨⟨_, _, _, _, F.excBase_ArithmeticError, F.store_ArithmeticError, q1, q2⟩, q3, He.eqO_ok q4, He.eqO_ok q5, He.eqO_ok q6, of_decide_eq_true q7, of_decide_eq_true q8, q9, He.eqO_ok q10, g1, g2, of_decide_eq_true q11⟩
theorem tx_ok {x : Str} {v : Value} (h : txB x v = true) : ∃ u, v = .str x u := by
  unfold txB at h
  split at h
  · next y u => exact ⟨u, by rw [of_decide_eq_true h]⟩
  · cases h
theorem wh_ok {K : PySem.W.Frag} (h : whB K = true) : ∀ H, SqT K H (He.ga K "WHERES") [.str "here", .str "up", .str "down"] := by
  unfold whB at h
  split at h
  · next o eo =>
    obtain ⟨h1, h⟩ := He.ba h
    split at h
    · next its n ed =>
      split at h
      · next a b c el =>
        obtain ⟨ha, h⟩ := He.ba h
        obtain ⟨hb, hc⟩ := He.ba h
        obtain ⟨u1, rfl⟩ := tx_ok ha
        obtain ⟨u2, rfl⟩ := tx_ok hb
        obtain ⟨u3, rfl⟩ := tx_ok hc
        refine fun H => .inr ⟨o, its, n, eo, of_decide_eq_true h1, ed, ?_, ?_⟩
        · rw [← Array.length_toList, el]
          show 3 ≤ sizeLine
          decide
        · rw [el]
          exact .cons ⟨_, rfl⟩ (.cons ⟨_, rfl⟩ (.cons ⟨_, rfl⟩ .nil))
      · cases h
    · cases h
  · cases h
theorem rf_ok {K : PySem.W.Frag} {x y : Str} (h : rfB K x y = true) : ∃ u, PySem.W.nsIn K (He.ga K "REFERENCES") x = some (some (.str y u)) := by
  unfold rfB at h
  split at h
  · next v e =>
    obtain ⟨u, rfl⟩ := tx_ok h
    exact ⟨u, e⟩
  · cases h
theorem facts {P : Program} {w : World} {K : PySem.W.Frag} {h : Heap} {mg : Str → Option Value} {f : Addr} (X : K.In h) (G : h.Ns mainGlobals mg) (hfa : mg ("law" : Str) = some (.ref f)) (c : He.SaysW xf fa fn fp ts w K) :
    ∃ fd : FuncData, (∀ (s : Shared) (v : Value), BindsTo s fd ⟨[v], []⟩ [("_law_script", v)]) ∧ ∀ base : Heap, K.In base → base.Ns mainGlobals mg → FnG P w K mg base CX0 63 f fd ["_law_script"] (spLaw K) := by
  have cx := c.x
  have cd := c.d
  obtain ⟨sm, cx⟩ := He.ba cx
  obtain ⟨gt, cx⟩ := He.ba cx
  obtain ⟨cc, cx⟩ := He.ba cx
  obtain ⟨su, cx⟩ := He.ba cx
  obtain ⟨cb, cx⟩ := He.ba cx
  obtain ⟨pb, cx⟩ := He.ba cx
  obtain ⟨fb, cx⟩ := He.ba cx
  obtain ⟨tb, cx⟩ := He.ba cx
  obtain ⟨wb, cx⟩ := He.ba cx
  obtain ⟨rb, ob⟩ := He.ba cx
  obtain ⟨r1, rb⟩ := He.ba rb
  obtain ⟨r2, r3⟩ := He.ba rb
  obtain ⟨t1, tb⟩ := He.ba tb
  obtain ⟨t2, tb⟩ := He.ba tb
  obtain ⟨t3, tb⟩ := He.ba tb
  obtain ⟨t4, tb⟩ := He.ba tb
  obtain ⟨t5, tb⟩ := He.ba tb
  obtain ⟨t6, t7⟩ := He.ba tb
  obtain ⟨gt1, gt2⟩ := He.ba gt
  obtain ⟨dBe, FBe⟩ := cd.def_ 0 (d := dTop iis_between "is_between") rfl
  have gBe := He.glo_ok X G (cd.fact 0 (f := .glo "is_between") rfl)
  obtain ⟨dIl, FIl⟩ := cd.def_ 1 (d := dTop iis_list "is_list") rfl
  have gIl := He.glo_ok X G (cd.fact 1 (f := .glo "is_list") rfl)
  obtain ⟨dIn, FIn⟩ := cd.def_ 2 (d := dTop iis_name "is_name") rfl
  have gIn := He.glo_ok X G (cd.fact 2 (f := .glo "is_name") rfl)
  obtain ⟨dIc, FIc⟩ := cd.def_ 3 (d := dTop iis_chosen "is_chosen") rfl
  have gIc := He.glo_ok X G (cd.fact 3 (f := .glo "is_chosen") rfl)
  obtain ⟨dCf, FCf⟩ := cd.def_ 4 (d := dTop i_check_formula "_check_formula") rfl
  have gCf := He.glo_ok X G (cd.fact 4 (f := .glo "_check_formula") rfl)
  obtain ⟨dIW, FIW⟩ := cd.def_ 5 (d := dTop iis_where "is_where") rfl
  have gIW := He.glo_ok X G (cd.fact 5 (f := .glo "is_where") rfl)
  obtain ⟨dPot, FPot⟩ := cd.def_ 6 (d := dTop i_law_pot "_law_pot") rfl
  have gPot := He.glo_ok X G (cd.fact 6 (f := .glo "_law_pot") rfl)
  obtain ⟨dDraw, FDraw⟩ := cd.def_ 7 (d := dTop i_law_draw "_law_draw") rfl
  have gDraw := He.glo_ok X G (cd.fact 7 (f := .glo "_law_draw") rfl)
  obtain ⟨dPick, FPick⟩ := cd.def_ 8 (d := dTop i_law_pick "_law_pick") rfl
  have gPick := He.glo_ok X G (cd.fact 8 (f := .glo "_law_pick") rfl)
  obtain ⟨dTk, FTk⟩ := cd.def_ 9 (d := dTop i_law_taken "_law_taken") rfl
  have gTk := He.glo_ok X G (cd.fact 9 (f := .glo "_law_taken") rfl)
  obtain ⟨dLeaf, FLeaf⟩ := cd.def_ 10 (d := dTop i_law_leaf "_law_leaf") rfl
  have gLeaf := He.glo_ok X G (cd.fact 10 (f := .glo "_law_leaf") rfl)
  obtain ⟨dPart, FPart⟩ := cd.def_ 11 (d := dTop i_law_part "_law_part") rfl
  have gPart := He.glo_ok X G (cd.fact 11 (f := .glo "_law_part") rfl)
  obtain ⟨dLF, FLF⟩ := cd.def_ 12 (d := dTop i_law_formula "_law_formula") rfl
  have gLF := He.glo_ok X G (cd.fact 12 (f := .glo "_law_formula") rfl)
  obtain ⟨dInn, FInn⟩ := cd.def_ 13 (d := dTop i_law_inner "_law_inner") rfl
  have gInn := He.glo_ok X G (cd.fact 13 (f := .glo "_law_inner") rfl)
  obtain ⟨dAll, FAll⟩ := cd.def_ 14 (d := dTop i_law_all "_law_all") rfl
  have gAll := He.glo_ok X G (cd.fact 14 (f := .glo "_law_all") rfl)
  obtain ⟨dDeep, FDeep⟩ := cd.def_ 15 (d := dTop i_law_deep "_law_deep") rfl
  have gDeep := He.glo_ok X G (cd.fact 15 (f := .glo "_law_deep") rfl)
  obtain ⟨dWL, FWL⟩ := cd.def_ 16 (d := dTop i_law_with "_law_with") rfl
  have gWL := He.glo_ok X G (cd.fact 16 (f := .glo "_law_with") rfl)
  obtain ⟨dRR, FRR⟩ := cd.def_ 17 (d := dTop i_law_read_right "_law_read_right") rfl
  have gRR := He.glo_ok X G (cd.fact 17 (f := .glo "_law_read_right") rfl)
  obtain ⟨dIs, FIs⟩ := cd.def_ 18 (d := dTop i_law_is "_law_is") rfl
  have gIs := He.glo_ok X G (cd.fact 18 (f := .glo "_law_is") rfl)
  obtain ⟨dFR, FFR⟩ := cd.def_ 19 (d := dTop i_law_fits_right "_law_fits_right") rfl
  have gFR := He.glo_ok X G (cd.fact 19 (f := .glo "_law_fits_right") rfl)
  obtain ⟨dFA, FFA⟩ := cd.def_ 20 (d := dTop i_law_fits_again "_law_fits_again") rfl
  have gFA := He.glo_ok X G (cd.fact 20 (f := .glo "_law_fits_again") rfl)
  obtain ⟨dPL, FPL⟩ := cd.def_ 21 (d := dTop i_law_put "_law_put") rfl
  have gPL := He.glo_ok X G (cd.fact 21 (f := .glo "_law_put") rfl)
  obtain ⟨dPR, FPR⟩ := cd.def_ 22 (d := dTop i_law_put_right "_law_put_right") rfl
  have gPR := He.glo_ok X G (cd.fact 22 (f := .glo "_law_put_right") rfl)
  obtain ⟨dCh, FCh⟩ := cd.def_ 23 (d := dTop i_law_chosen "_law_chosen") rfl
  have gCh := He.glo_ok X G (cd.fact 23 (f := .glo "_law_chosen") rfl)
  obtain ⟨dCn, FCn⟩ := cd.def_ 24 (d := dTop i_law_chain "_law_chain") rfl
  have gCn := He.glo_ok X G (cd.fact 24 (f := .glo "_law_chain") rfl)
  obtain ⟨dRi, FRi⟩ := cd.def_ 25 (d := dTop i_law_right "_law_right") rfl
  have gRi := He.glo_ok X G (cd.fact 25 (f := .glo "_law_right") rfl)
  obtain ⟨dLaw, FLaw⟩ := cd.def_ 26 (d := dTop ilaw "law") rfl
  obtain ⟨dInit, FInit⟩ := cd.def_ 27 (d := dMeth iFormula "Formula" 0 "__init__") rfl
  obtain ⟨dLen, FLen⟩ := cd.def_ 28 (d := dMeth iFormula "Formula" 10 "__len__") rfl
  obtain ⟨dEq, FEq⟩ := cd.def_ 29 (d := dMeth iFormula "Formula" 12 "__eq__") rfl
  obtain ⟨dEv, FEv⟩ := cd.def_ 30 (d := dMeth iFormula "Formula" 15 "_every") rfl
  obtain ⟨dWi, FWi⟩ := cd.def_ 31 (d := dMeth iFormula "Formula" 17 "_with_node") rfl
  obtain ⟨dPut, FPut⟩ := cd.def_ 32 (d := dMeth iFormula "Formula" 4 "put") rfl
  obtain ⟨dNo, FNo⟩ := cd.def_ 33 (d := dMeth iFormula "Formula" 2 "nodes") rfl
  obtain ⟨dCo, FCo⟩ := cd.def_ 34 (d := dMeth iFormula "Formula" 3 "columns_read") rfl
  obtain ⟨dFi, FFi⟩ := cd.def_ 35 (d := dMeth iFormula "Formula" 5 "fits") rfl
  obtain ⟨dOfPlus, FOfPlus⟩ := cd.def_ 36 (d := dMeth iPlus "Plus" 3 "_of_parts") rfl
  obtain ⟨dOfLeast, FOfLeast⟩ := cd.def_ 37 (d := dMeth iLeast "Least" 3 "_of_parts") rfl
  obtain ⟨dOfMost, FOfMost⟩ := cd.def_ 38 (d := dMeth iMost "Most" 3 "_of_parts") rfl
  obtain ⟨dOfSame, FOfSame⟩ := cd.def_ 39 (d := dMeth iSame "Same" 3 "_of_parts") rfl
  obtain ⟨dOfChoice, FOfChoice⟩ := cd.def_ 40 (d := dMeth iChoice "Choice" 4 "_of_parts") rfl
  obtain ⟨dFFormula, FFFormula⟩ := cd.def_ 41 (d := dMeth iFormula "Formula" 16 "_fits_itself") rfl
  obtain ⟨dFNumber, FFNumber⟩ := cd.def_ 42 (d := dMeth iNumber "Number" 2 "_fits_itself") rfl
  obtain ⟨dFReference, FFReference⟩ := cd.def_ 43 (d := dMeth iReference "Reference" 2 "_fits_itself") rfl
  obtain ⟨dFChoice, FFChoice⟩ := cd.def_ 44 (d := dMeth iChoice "Choice" 2 "_fits_itself") rfl
  obtain ⟨dSNumber, FSNumber⟩ := cd.def_ 45 (d := dMeth iNumber "Number" 0 "__init__") rfl
  obtain ⟨dSReference, FSReference⟩ := cd.def_ 46 (d := dMeth iReference "Reference" 0 "__init__") rfl
  obtain ⟨dSHere, FSHere⟩ := cd.def_ 47 (d := dMeth iHere "Here" 0 "__init__") rfl
  obtain ⟨dSUp, FSUp⟩ := cd.def_ 48 (d := dMeth iUp "Up" 0 "__init__") rfl
  obtain ⟨dSDown, FSDown⟩ := cd.def_ 49 (d := dMeth iDown "Down" 0 "__init__") rfl
  obtain ⟨dSPair, FSPair⟩ := cd.def_ 50 (d := dMeth iPair "Pair" 0 "__init__") rfl
  obtain ⟨dSPlus, FSPlus⟩ := cd.def_ 51 (d := dMeth iPlus "Plus" 0 "__init__") rfl
  obtain ⟨dSLeast, FSLeast⟩ := cd.def_ 52 (d := dMeth iLeast "Least" 0 "__init__") rfl
  obtain ⟨dSMost, FSMost⟩ := cd.def_ 53 (d := dMeth iMost "Most" 0 "__init__") rfl
  obtain ⟨dSSame, FSSame⟩ := cd.def_ 54 (d := dMeth iSame "Same" 0 "__init__") rfl
  obtain ⟨dSChoice, FSChoice⟩ := cd.def_ 55 (d := dMeth iChoice "Choice" 0 "__init__") rfl
  obtain ⟨dTM, FTM⟩ := cd.def_ 56 (d := dMeth iTooMany "TooMany" 0 "__init__") rfl
  have gRes := He.glo_ok X G (cd.fact 27 (f := .glo "RESERVED") rfl)
  have iLn := He.int_ok X G (cd.fact 28 (f := .int "LONGEST_NAME" 8) rfl)
  have iMn := He.int_ok X G (cd.fact 29 (f := .int "MAX_NODES" 40) rfl)
  have iMd := He.int_ok X G (cd.fact 30 (f := .int "MAX_DEPTH" 8) rfl)
  have iGn := He.int_ok X G (cd.fact 31 (f := .int "GREATEST_NUMBER" 8) rfl)
  have gFormula := He.glo_ok X G (cd.fact 32 (f := .glo "Formula") rfl)
  have gReference := He.glo_ok X G (cd.fact 33 (f := .glo "Reference") rfl)
  have gPair := He.glo_ok X G (cd.fact 34 (f := .glo "Pair") rfl)
  have gNumber := He.glo_ok X G (cd.fact 35 (f := .glo "Number") rfl)
  have gHere := He.glo_ok X G (cd.fact 36 (f := .glo "Here") rfl)
  have gUp := He.glo_ok X G (cd.fact 37 (f := .glo "Up") rfl)
  have gDown := He.glo_ok X G (cd.fact 38 (f := .glo "Down") rfl)
  have gPlus := He.glo_ok X G (cd.fact 39 (f := .glo "Plus") rfl)
  have gLeast := He.glo_ok X G (cd.fact 40 (f := .glo "Least") rfl)
  have gMost := He.glo_ok X G (cd.fact 41 (f := .glo "Most") rfl)
  have gSame := He.glo_ok X G (cd.fact 42 (f := .glo "Same") rfl)
  have gChoice := He.glo_ok X G (cd.fact 43 (f := .glo "Choice") rfl)
  have clNumber := He.cls_ok (cd.fact 44 (f := .cls "Number") rfl)
  have clHere := He.cls_ok (cd.fact 45 (f := .cls "Here") rfl)
  have clUp := He.cls_ok (cd.fact 46 (f := .cls "Up") rfl)
  have clDown := He.cls_ok (cd.fact 47 (f := .cls "Down") rfl)
  have clPlus := He.cls_ok (cd.fact 48 (f := .cls "Plus") rfl)
  have clLeast := He.cls_ok (cd.fact 49 (f := .cls "Least") rfl)
  have clMost := He.cls_ok (cd.fact 50 (f := .cls "Most") rfl)
  have clSame := He.cls_ok (cd.fact 51 (f := .cls "Same") rfl)
  have clChoice := He.cls_ok (cd.fact 52 (f := .cls "Choice") rfl)
  have mkNumber := He.mkr_ok (cd.fact 53 (f := .mkr "Number") rfl)
  have mkHere := He.mkr_ok (cd.fact 54 (f := .mkr "Here") rfl)
  have mkUp := He.mkr_ok (cd.fact 55 (f := .mkr "Up") rfl)
  have mkDown := He.mkr_ok (cd.fact 56 (f := .mkr "Down") rfl)
  have mkPlus := He.mkr_ok (cd.fact 57 (f := .mkr "Plus") rfl)
  have mkLeast := He.mkr_ok (cd.fact 58 (f := .mkr "Least") rfl)
  have mkMost := He.mkr_ok (cd.fact 59 (f := .mkr "Most") rfl)
  have mkSame := He.mkr_ok (cd.fact 60 (f := .mkr "Same") rfl)
  have mkChoice := He.mkr_ok (cd.fact 61 (f := .mkr "Choice") rfl)
  have b_len : mg "len" = none := He.free_ok X G (cd.fact 62 (f := .free "len") rfl)
  have b_abs : mg "abs" = none := He.free_ok X G (cd.fact 63 (f := .free "abs") rfl)
  have b_max : mg "max" = none := He.free_ok X G (cd.fact 64 (f := .free "max") rfl)
  have b_min : mg "min" = none := He.free_ok X G (cd.fact 65 (f := .free "min") rfl)
  have b_int : mg "int" = none := He.free_ok X G (cd.fact 66 (f := .free "int") rfl)
  have b_divmod : mg "divmod" = none := He.free_ok X G (cd.fact 67 (f := .free "divmod") rfl)
  have b_isinstance : mg "isinstance" = none := He.free_ok X G (cd.fact 68 (f := .free "isinstance") rfl)
  have b_bool : mg "bool" = none := He.free_ok X G (cd.fact 69 (f := .free "bool") rfl)
  have b_list : mg "list" = none := He.free_ok X G (cd.fact 70 (f := .free "list") rfl)
  have b_tuple : mg "tuple" = none := He.free_ok X G (cd.fact 71 (f := .free "tuple") rfl)
  have b_str : mg "str" = none := He.free_ok X G (cd.fact 72 (f := .free "str") rfl)
  have b_repr : mg "repr" = none := He.free_ok X G (cd.fact 73 (f := .free "repr") rfl)
  have b_enumerate : mg "enumerate" = none := He.free_ok X G (cd.fact 74 (f := .free "enumerate") rfl)
  have b_range : mg "range" = none := He.free_ok X G (cd.fact 75 (f := .free "range") rfl)
  have b_all : mg "all" = none := He.free_ok X G (cd.fact 76 (f := .free "all") rfl)
  have b_zip : mg "zip" = none := He.free_ok X G (cd.fact 77 (f := .free "zip") rfl)
  have b_sorted : mg "sorted" = none := He.free_ok X G (cd.fact 78 (f := .free "sorted") rfl)
  have b_set : mg "set" = none := He.free_ok X G (cd.fact 79 (f := .free "set") rfl)
  have gTM := He.glo_ok X G (cd.fact 80 (f := .glo "TooMany") rfl)
  have gLE := He.glo_ok X G (cd.fact 81 (f := .glo "LimitError") rfl)
  have gWH := He.glo_ok X G (cd.fact 82 (f := .glo "WHERES") rfl)
  have gRF := He.glo_ok X G (cd.fact 83 (f := .glo "REFERENCES") rfl)
  have e := hfa.symm.trans (He.glo_ok X G (cd.fact 26 (f := .glo "law") rfl))
  cases e
  have cfn : ∀ x ∈ supC, CFn K (He.ga K x) "__init__" (He.ma K (He.ga K x) "__init__") := fun x hx => He.cfn_ok (List.all_eq_true.mp su x hx)
  have cF := cfn "Formula" (by decide +kernel)
  have cR := cfn "Reference" (by decide +kernel)
  have cP := cfn "Pair" (by decide +kernel)
  obtain ⟨rsD, rsM⟩ := c.tab 0 (t := (fun K => He.ga K "RESERVED", reserved)) rfl
  have one : ∀ f : Fm, One K (nameOf f) := fun f => one_ok (List.all_eq_true.mp cb _ (name_mem f))
  have pr : ∀ x ∈ conc, ∀ y ∈ conc, PySem.W.notFirst K (He.ga K x) (.ref (He.ga K y)) = true := fun x hx y hy => List.all_eq_true.mp (List.all_eq_true.mp pb x hx) y hy
  obtain ⟨rfD, _⟩ := c.tab 1 (t := (fun K => He.ga K "REFERENCES", ["here", "up", "down"])) rfl
  have gw : Gw K w mg := ⟨⟨_, gWH, wh_ok wb⟩, ⟨_, gRF, rfD, fun i => match i with
    | 0 => rf_ok r1
    | 1 => rf_ok r2
    | _ + 2 => rf_ok r3⟩⟩
  have fc : ∀ x ∈ conc, Cls K (He.ga K x) → Fc K (He.ga K x) := fun x hx cl => ⟨cl, fun f hf => by
    have z := (He.ba (List.all_eq_true.mp cc x hx)).1
    exact He.eqO_ok (List.all_eq_true.mp z f hf)⟩
  have ki : ∀ x ∈ conc, PySem.W.findIn K (.ref (He.ga K x)) "__class__" = some (some (.builtin "object.__class__")) ∧ PySem.W.mroIn K (He.ga K x) (.type "object") = some true ∧ PySem.W.kitOne K (.ref (He.ga K x)) (.ref (He.ga K "Formula")) = some true := fun x hx => by
    have z := (He.ba (List.all_eq_true.mp cc x hx)).2
    obtain ⟨z1, z⟩ := He.ba z
    obtain ⟨z2, z3⟩ := He.ba z
    exact ⟨He.eqO_ok z1, of_decide_eq_true z2, of_decide_eq_true z3⟩
  have T : Cl K (csK K) := ⟨fc "Number" (by decide +kernel) clNumber, fun w => match w with
    | 0 => fc "Here" (by decide +kernel) clHere
    | 1 => fc "Up" (by decide +kernel) clUp
    | _ + 2 => fc "Down" (by decide +kernel) clDown, fun o => match o with
    | 0 => fc "Plus" (by decide +kernel) clPlus
    | 1 => fc "Least" (by decide +kernel) clLeast
    | 2 => fc "Most" (by decide +kernel) clMost
    | _ + 3 => fc "Same" (by decide +kernel) clSame, fc "Choice" (by decide +kernel) clChoice⟩
  have B : Fb K mg (csK K) (He.ga K "Formula") := ⟨gFormula, He.eqO_ok gt1, of_decide_eq_true gt2, fun f => by rw [cls_name]; exact (ki _ (name_mem f)).1, fun f => by rw [cls_name]; exact (ki _ (name_mem f)).2.1, fun f => by rw [cls_name]; exact (ki _ (name_mem f)).2.2⟩
  have Q : Eqc K (csK K) (mF K "__eq__") := ⟨fun g => by rw [cls_name]; exact (one g).mem "__eq__" (by decide +kernel), fun g g' _ _ => by rw [cls_name, cls_name]; exact pr _ (name_mem g) _ (name_mem g')⟩
  have own : ∀ m ∈ mems, ∀ g, OwnM K (clsOf (csK K) g) m (mF K m) := fun m hm g => by rw [cls_name]; exact (one g).mem m hm
  have nee : ∀ g, PySem.W.findIn K (.ref (clsOf (csK K) g)) "__ne__" = some (some (.builtin "object.__ne__")) := fun g => by rw [cls_name]; exact (one g).ne
  have gs : Gs K w mg := ⟨⟨_, gRes, rsD, rsM⟩, iLn⟩
  have gf : Gf mg := ⟨iMn, iMd, iGn⟩
  have b := FunD.bindsA (ps := ["_law_script"]) FLaw fun _ _ _ _ _ _ us hl => match us, hl with | [_], _ => rfl
  have bNo : Binds K dNo ["self"] [] := FNo.bindsN fun _ _ _ _ _ _ us hl => match us, hl with | [_], _ => rfl
  have bLen : Binds K dLen ["self"] [] := FLen.bindsN fun _ _ _ _ _ _ us hl => match us, hl with | [_], _ => rfl
  have bEq : Binds K dEq ["self", "other"] [] := FEq.bindsN fun _ _ _ _ _ _ us hl => match us, hl with | [_, _], _ => rfl
  have bEv : Binds K dEv ["self"] [] := FEv.bindsN fun _ _ _ _ _ _ us hl => match us, hl with | [_], _ => rfl
  have bWi : Binds K dWi ["self", "number", "formula"] [] := FWi.bindsN fun _ _ _ _ _ _ us hl => match us, hl with | [_, _, _], _ => rfl
  have bPut : Binds K dPut ["self", "number", "formula"] [] := FPut.bindsN fun _ _ _ _ _ _ us hl => match us, hl with | [_, _, _], _ => rfl
  have bOfPlus : Binds K dOfPlus ["self", "parts"] [] := FOfPlus.bindsN fun _ _ _ _ _ _ us hl => match us, hl with | [_, _], _ => rfl
  have bOfLeast : Binds K dOfLeast ["self", "parts"] [] := FOfLeast.bindsN fun _ _ _ _ _ _ us hl => match us, hl with | [_, _], _ => rfl
  have bOfMost : Binds K dOfMost ["self", "parts"] [] := FOfMost.bindsN fun _ _ _ _ _ _ us hl => match us, hl with | [_, _], _ => rfl
  have bOfSame : Binds K dOfSame ["self", "parts"] [] := FOfSame.bindsN fun _ _ _ _ _ _ us hl => match us, hl with | [_, _], _ => rfl
  have bOfChoice : Binds K dOfChoice ["self", "parts"] [] := FOfChoice.bindsN fun _ _ _ _ _ _ us hl => match us, hl with | [_, _], _ => rfl
  have bSNumber : Binds K dSNumber ["self", "value"] [] := FSNumber.bindsN fun _ _ _ _ _ _ us hl => match us, hl with | [_, _], _ => rfl
  have bSHere : Binds K dSHere ["self", "column"] [] := FSHere.bindsN fun _ _ _ _ _ _ us hl => match us, hl with | [_, _], _ => rfl
  have bSUp : Binds K dSUp ["self", "column"] [] := FSUp.bindsN fun _ _ _ _ _ _ us hl => match us, hl with | [_, _], _ => rfl
  have bSDown : Binds K dSDown ["self", "column"] [] := FSDown.bindsN fun _ _ _ _ _ _ us hl => match us, hl with | [_, _], _ => rfl
  have bSPlus : Binds K dSPlus ["self", "left", "right"] [] := FSPlus.bindsN fun _ _ _ _ _ _ us hl => match us, hl with | [_, _, _], _ => rfl
  have bSLeast : Binds K dSLeast ["self", "left", "right"] [] := FSLeast.bindsN fun _ _ _ _ _ _ us hl => match us, hl with | [_, _, _], _ => rfl
  have bSMost : Binds K dSMost ["self", "left", "right"] [] := FSMost.bindsN fun _ _ _ _ _ _ us hl => match us, hl with | [_, _, _], _ => rfl
  have bSSame : Binds K dSSame ["self", "left", "right"] [] := FSSame.bindsN fun _ _ _ _ _ _ us hl => match us, hl with | [_, _, _], _ => rfl
  have bSChoice : Binds K dSChoice ["self", "test", "chosen", "then", "other"] [] := FSChoice.bindsN fun _ _ _ _ _ _ us hl => match us, hl with | [_, _, _, _, _], _ => rfl
  refine ⟨dLaw, fun s v => b s [v] rfl, fun base _ _ => ?_⟩
  have GBe := ok_between (P := P) (w := w) (mg := mg) (base := base) FBe b_isinstance b_int b_bool
  have GIl := ok_isList (P := P) (w := w) (mg := mg) (base := base) FIl b_isinstance b_list b_tuple
  have GIn := ok_isName (P := P) (w := w) (mg := mg) (base := base) FIn gs b_isinstance b_str b_len
  have GIc := ok_chosen (P := P) (w := w) (mg := mg) (base := base) FIc FIl FBe GIl GBe gIl gBe gf
  have GCf := ok_checkF (P := P) (w := w) (mg := mg) (base := base) FCf T B b_isinstance
  have GInit := ok_initF (P := P) (w := w) (mg := mg) (base := base) FInit gf
  have GNum := ok_num (P := P) (w := w) (mg := mg) (base := base) (C := (csK K).num) FSNumber T.num gf FInit gFormula cF GInit FBe GBe gBe
  have GRefI := ok_ref (P := P) (w := w) (mg := mg) (base := base) FSReference T FInit gFormula cF GInit FIn GIn gIn
  have GHere := ok_here (P := P) (w := w) (mg := mg) (base := base) (c := csK K) FSHere FSReference gReference cR GRefI
  have GUp := ok_up (P := P) (w := w) (mg := mg) (base := base) (c := csK K) FSUp FSReference gReference cR GRefI
  have GDown := ok_down (P := P) (w := w) (mg := mg) (base := base) (c := csK K) FSDown FSReference gReference cR GRefI
  have GPairI := ok_pair (P := P) (w := w) (mg := mg) (base := base) FSPair T FInit gFormula cF GInit FCf GCf gCf
  have GPlus := ok_plus (P := P) (w := w) (mg := mg) (base := base) (c := csK K) FSPlus FSPair gPair cP GPairI
  have GLeast := ok_least (P := P) (w := w) (mg := mg) (base := base) (c := csK K) FSLeast FSPair gPair cP GPairI
  have GMost := ok_most (P := P) (w := w) (mg := mg) (base := base) (c := csK K) FSMost FSPair gPair cP GPairI
  have GSame := ok_same (P := P) (w := w) (mg := mg) (base := base) (c := csK K) FSSame FSPair gPair cP GPairI
  have GCho := ok_cho (P := P) (w := w) (mg := mg) (base := base) (c := csK K) FSChoice T FInit gFormula cF GInit FCf GCf gCf FIc GIc gIc b_tuple
  have M : Mks P w K mg base (csK K) := ⟨⟨_, _, gNumber, mkNumber, GNum.mono (by decide), bSNumber⟩, fun i hi => match i, hi with
    | 0, _ => ⟨_, _, gHere, mkHere, GHere, bSHere⟩
    | 1, _ => ⟨_, _, gUp, mkUp, GUp, bSUp⟩
    | 2, _ => ⟨_, _, gDown, mkDown, GDown, bSDown⟩, fun i hi => match i, hi with
    | 0, _ => ⟨_, _, gPlus, mkPlus, GPlus, bSPlus⟩
    | 1, _ => ⟨_, _, gLeast, mkLeast, GLeast, bSLeast⟩
    | 2, _ => ⟨_, _, gMost, mkMost, GMost, bSMost⟩
    | 3, _ => ⟨_, _, gSame, mkSame, GSame, bSSame⟩, ⟨_, _, gChoice, mkChoice, GCho, bSChoice⟩⟩
  have meth : ∀ m ∈ mems, PySem.W.keepIn K (.ref (mF K m)) = true → ∀ g, Meth K (clsOf (csK K) g) m (mF K m) := fun m hm kp g => ⟨(own m hm g).find, (own m hm g).fn, kp⟩
  have mEv := meth "_every" (by decide +kernel) FEv.kp
  have mWi := meth "_with_node" (by decide +kernel) FWi.kp
  have mPut := meth "put" (by decide +kernel) FPut.kp
  have mNo := meth "nodes" (by decide +kernel) FNo.kp
  have mCo := meth "columns_read" (by decide +kernel) FCo.kp
  have mFi := meth "fits" (by decide +kernel) FFi.kp
  have Y : TmG K mg (He.ga K "TooMany") (He.ma K (He.ga K "TooMany") "__init__") := ⟨xc_of (He.eqO_ok gt1) (of_decide_eq_true gt2) t1, He.eqO_ok t2, of_decide_eq_true t3, gTM, He.eqO_ok t4, He.eqO_ok t5⟩
  have GTM := ok_tm (P := P) (w := w) (mg := mg) (base := base) FTM Y
  have GInitX := ok_initFX (P := P) (w := w) (mg := mg) (base := base) FInit gf Y FTM GTM
  have GPairIX := ok_pairX (P := P) (w := w) (mg := mg) (base := base) FSPair T FInit gFormula cF GInitX FCf GCf gCf
  have GPlusX := ok_plusX (P := P) (w := w) (mg := mg) (base := base) (c := csK K) FSPlus FSPair gPair cP GPairIX
  have GLeastX := ok_leastX (P := P) (w := w) (mg := mg) (base := base) (c := csK K) FSLeast FSPair gPair cP GPairIX
  have GMostX := ok_mostX (P := P) (w := w) (mg := mg) (base := base) (c := csK K) FSMost FSPair gPair cP GPairIX
  have GSameX := ok_sameX (P := P) (w := w) (mg := mg) (base := base) (c := csK K) FSSame FSPair gPair cP GPairIX
  have GChoX := ok_choX (P := P) (w := w) (mg := mg) (base := base) (c := csK K) FSChoice T FInit gFormula cF GInitX FCf GCf gCf FIc GIc gIc b_tuple
  have MX : MksX P w K mg base (He.ga K "TooMany") (csK K) := ⟨fun i hi => match i, hi with
    | 0, _ => ⟨_, _, gPlus, mkPlus, GPlusX, bSPlus⟩
    | 1, _ => ⟨_, _, gLeast, mkLeast, GLeastX, bSLeast⟩
    | 2, _ => ⟨_, _, gMost, mkMost, GMostX, bSMost⟩
    | 3, _ => ⟨_, _, gSame, mkSame, GSameX, bSSame⟩, ⟨_, _, gChoice, mkChoice, GChoX.mono (by decide), bSChoice⟩⟩
  have ft : ∀ s ∈ fis, OwnM K (He.ga K s.1) "_fits_itself" (He.ma K (He.ga K s.2) "_fits_itself") := fun s hs => own_ok (List.all_eq_true.mp fb s hs)
  have mk : ∀ {C f : Addr} {m : Str}, OwnM K C m f → PySem.W.keepIn K (.ref f) = true → Meth K C m f := fun o kp => ⟨o.find, o.fn, kp⟩
  let ff : Fm → Addr := fun g => match g with
    | .num _ => He.ma K (He.ga K "Number") "_fits_itself"
    | .ref .. => He.ma K (He.ga K "Reference") "_fits_itself"
    | .pair .. => He.ma K (He.ga K "Formula") "_fits_itself"
    | .cho .. => He.ma K (He.ga K "Choice") "_fits_itself"
  let fdf : Fm → FuncData := fun g => match g with
    | .num _ => dFNumber
    | .ref .. => dFReference
    | .pair .. => dFFormula
    | .cho .. => dFChoice
  have mF : ∀ g, Meth K (clsOf (csK K) g) "_fits_itself" (ff g) := fun g => match g with
    | .num _ => mk (ft ("Number", "Number") (by decide +kernel)) FFNumber.kp
    | .ref 0 _ => mk (ft ("Here", "Reference") (by decide +kernel)) FFReference.kp
    | .ref 1 _ => mk (ft ("Up", "Reference") (by decide +kernel)) FFReference.kp
    | .ref (_ + 2) _ => mk (ft ("Down", "Reference") (by decide +kernel)) FFReference.kp
    | .pair 0 _ _ => mk (ft ("Plus", "Formula") (by decide +kernel)) FFFormula.kp
    | .pair 1 _ _ => mk (ft ("Least", "Formula") (by decide +kernel)) FFFormula.kp
    | .pair 2 _ _ => mk (ft ("Most", "Formula") (by decide +kernel)) FFFormula.kp
    | .pair (_ + 3) _ _ => mk (ft ("Same", "Formula") (by decide +kernel)) FFFormula.kp
    | .cho .. => mk (ft ("Choice", "Choice") (by decide +kernel)) FFChoice.kp
  have GFI : ∀ g, FnOk P w K mg base CX0 1 (ff g) (fdf g) ["self", "modulus", "columns"] (spFI K (csK K) g) := fun g => match g with
    | .num _ => ok_fiN (P := P) (w := w) (mg := mg) (base := base) FFNumber T
    | .ref .. => ok_fiR (P := P) (w := w) (mg := mg) (base := base) FFReference T
    | .pair .. => ok_fiF (P := P) (w := w) (mg := mg) (base := base) FFFormula
    | .cho .. => ok_fiC (P := P) (w := w) (mg := mg) (base := base) FFChoice T
  have bFI : ∀ g, Binds K (fdf g) ["self", "modulus", "columns"] [] := fun g => match g with
    | .num _ => FFNumber.bindsN fun _ _ _ _ _ _ us hl => match us, hl with | [_, _, _], _ => rfl
    | .ref .. => FFReference.bindsN fun _ _ _ _ _ _ us hl => match us, hl with | [_, _, _], _ => rfl
    | .pair .. => FFFormula.bindsN fun _ _ _ _ _ _ us hl => match us, hl with | [_, _, _], _ => rfl
    | .cho .. => FFChoice.bindsN fun _ _ _ _ _ _ us hl => match us, hl with | [_, _, _], _ => rfl
  have GEq := ok_eqF (P := P) (w := w) (mg := mg) (base := base) FEq T B Q b_isinstance 17
  have GLen := ok_lenF (P := P) (w := w) (mg := mg) (base := base) FLen T b_len b_range
  have GEv := ok_every (P := P) (w := w) (mg := mg) (base := base) FEv T mEv 17
  have ofO : ∀ x ∈ ofC, OwnM K (He.ga K x) "_of_parts" (He.ma K (He.ga K x) "_of_parts") := fun x hx => own_ok (List.all_eq_true.mp ob x hx)
  have GWi := ok_withX (P := P) (w := w) (mg := mg) (base := base) FWi T mWi (fO := fun i => match i with
    | none => He.ma K (He.ga K "Choice") "_of_parts"
    | some ⟨0, _⟩ => He.ma K (He.ga K "Plus") "_of_parts"
    | some ⟨1, _⟩ => He.ma K (He.ga K "Least") "_of_parts"
    | some ⟨2, _⟩ => He.ma K (He.ga K "Most") "_of_parts"
    | some ⟨3, _⟩ => He.ma K (He.ga K "Same") "_of_parts") (fdO := fun i => match i with
    | none => dOfChoice
    | some ⟨0, _⟩ => dOfPlus
    | some ⟨1, _⟩ => dOfLeast
    | some ⟨2, _⟩ => dOfMost
    | some ⟨3, _⟩ => dOfSame) (fun i => match i with
    | none => ⟨(ofO "Choice" (by decide +kernel)).find, (ofO "Choice" (by decide +kernel)).fn, FOfChoice.kp⟩
    | some ⟨0, _⟩ => ⟨(ofO "Plus" (by decide +kernel)).find, (ofO "Plus" (by decide +kernel)).fn, FOfPlus.kp⟩
    | some ⟨1, _⟩ => ⟨(ofO "Least" (by decide +kernel)).find, (ofO "Least" (by decide +kernel)).fn, FOfLeast.kp⟩
    | some ⟨2, _⟩ => ⟨(ofO "Most" (by decide +kernel)).find, (ofO "Most" (by decide +kernel)).fn, FOfMost.kp⟩
    | some ⟨3, _⟩ => ⟨(ofO "Same" (by decide +kernel)).find, (ofO "Same" (by decide +kernel)).fn, FOfSame.kp⟩) (fun i => match i with
    | none => ok_ofChoiceX (P := P) (w := w) (mg := mg) (base := base) FOfChoice T MX
    | some ⟨0, _⟩ => ok_ofPlusX (P := P) (w := w) (mg := mg) (base := base) FOfPlus MX
    | some ⟨1, _⟩ => ok_ofLeastX (P := P) (w := w) (mg := mg) (base := base) FOfLeast MX
    | some ⟨2, _⟩ => ok_ofMostX (P := P) (w := w) (mg := mg) (base := base) FOfMost MX
    | some ⟨3, _⟩ => ok_ofSameX (P := P) (w := w) (mg := mg) (base := base) FOfSame MX) (fun i => match i with
    | none => bOfChoice
    | some ⟨0, _⟩ => bOfPlus
    | some ⟨1, _⟩ => bOfLeast
    | some ⟨2, _⟩ => bOfMost
    | some ⟨3, _⟩ => bOfSame) 17
  have GPut := ok_putX (P := P) (w := w) (mg := mg) (base := base) (n := 17) FPut T gf FBe GBe gBe FCf GCf gCf mEv GEv bEv mWi GWi bWi
  have GPot := ok_pot (P := P) (w := w) (mg := mg) (base := base) FPot b_len b_abs b_max b_int
  have GDraw := ok_draw (P := P) (w := w) (mg := mg) (base := base) FDraw b_divmod b_int
  have GPick := ok_pick (P := P) (w := w) (mg := mg) (base := base) FPick FDraw gDraw b_len b_divmod b_int
  have GLeaf := ok_leaf (P := P) (w := w) (mg := mg) (base := base) FLeaf FDraw GDraw gDraw FPick GPick gPick
  have GPart := ok_part (P := P) (w := w) (mg := mg) (base := base) FPart gPart FDraw GDraw gDraw FPick GPick gPick FLeaf GLeaf gLeaf b_tuple b_range 15
  have GLF := ok_lf (P := P) (w := w) (mg := mg) (base := base) FLF M gLF 17
  have GNo := ok_nodes (P := P) (w := w) (mg := mg) (base := base) FNo T mEv GEv bEv b_enumerate
  have GIW := ok_isWhere (P := P) (w := w) (mg := mg) (base := base) FIW gw b_isinstance b_str
  have GCo := ok_cols (P := P) (w := w) (mg := mg) (base := base) FCo T gw mEv GEv bEv FIW GIW gIW b_sorted
  have GFi := ok_fits (P := P) (w := w) (mg := mg) (base := base) FFi T mEv GEv bEv mF GFI bFI b_all
  have GTk := ok_taken (P := P) (w := w) (mg := mg) (base := base) FTk FDraw GDraw gDraw b_len b_list b_range
  have GInn := ok_inn (P := P) (w := w) (mg := mg) (base := base) FInn
  have GAll := ok_all (P := P) (w := w) (mg := mg) (base := base) FAll gAll FInn GInn gInn
  have GDeep := ok_deep (P := P) (w := w) (mg := mg) (base := base) FDeep gDeep FInn GInn gInn b_max
  have GWL := ok_withL (P := P) (w := w) (mg := mg) (base := base) FWL gWL FAll GAll gAll b_len b_list b_tuple
  have GRR := ok_rr (P := P) (w := w) (mg := mg) (base := base) FRR T mCo FCo GCo b_sorted b_set b_isinstance b_list
  have GIs := ok_is (P := P) (w := w) (mg := mg) (base := base) FIs T B Q (GEq) bEq nee FAll (GAll 17) gAll FDeep (GDeep 17) gDeep FLF (GLF) gLF FRR GRR gRR GNo bNo mNo GLen bLen (own "__len__" (by decide +kernel)) b_isinstance b_list b_tuple b_repr b_all b_len b_range sm
  have GFR := ok_fr (P := P) (w := w) (mg := mg) (base := base) FFR T FDraw GDraw gDraw mFi FFi GFi b_all b_list b_tuple b_repr sm
  have GFA := ok_fa (P := P) (w := w) (mg := mg) (base := base) (n := 17) FFA T M (by decide) mFi FFi GFi b_repr sm
  have GPL := ok_putL (P := P) (w := w) (mg := mg) (base := base) FPL T Y mPut FPut GPut gLE (of_decide_eq_true t6) (of_decide_eq_true t7) b_isinstance
  have GPR := ok_pr (P := P) (w := w) (mg := mg) (base := base) FPR T B Q GEq bEq FDraw GDraw gDraw FAll (GAll 17) gAll FDeep (GDeep 17) gDeep FLF GLF gLF FWL (GWL 17) gWL FPL GPL gPL FIs GIs gIs b_repr b_len b_range sm (by decide)
  have GCh := ok_ch (P := P) (w := w) (mg := mg) (base := base) FCh FDraw GDraw gDraw b_tuple b_range
  have GCn := ok_chain (P := P) (w := w) (mg := mg) (base := base) FCn FDraw GDraw gDraw FPick GPick gPick FLeaf GLeaf gLeaf FCh GCh gCh b_int b_range
  have GRi := ok_ri (P := P) (w := w) (mg := mg) (base := base) FRi T B Q GEq bEq FDraw GDraw gDraw FTk GTk gTk FPart (GPart.mono (by decide)) gPart FCn GCn gCn FLF (GLF.mono (by decide)) gLF FAll ((GAll 17).mono (by decide)) gAll FIs GIs gIs FFA GFA gFA FFR GFR gFR FPR GPR gPR mPut FPut GPut b_all b_range nam_of
  exact ok_law (P := P) (w := w) (mg := mg) (base := base) FLaw FPot FRi GPot GRi gPot gRi b_range b_max b_min b_len b_all
end K12
open PySem PySem.W PySem.Calls PyProof.Rows
theorem PySem.Challenge.cw_belowneeds_k12_nodes_and_parts_holds : PySem.Challenge.rw_belowneeds_k12_nodes_and_parts.Holds := by
  w_on; o_law
  refine HandSHeadRun.head_any (r := OpenLaw.row PySem.Challenge.rw_belowneeds_k12_nodes_and_parts) (q := view (OpenLaw.row PySem.Challenge.rw_belowneeds_k12_nodes_and_parts).prog [K12.topI]) (H := K12.hk) (ob := K12.ob) (M := 12000) (loose := K12.loose)
    (d := HandSHeadRun.topDef (OpenLaw.row PySem.Challenge.rw_belowneeds_k12_nodes_and_parts).prog K12.topI) (kwd := []) K12.ob_eq
    (by kernel_rfl) (fun s => by kernel_rfl) K12.run (by kernel_rfl) (by kernel_rfl) (by kernel_rfl) (by rfl) (by first | assumption | decide +kernel) (by decide +kernel) ⟨rfl, rfl, rfl, rfl, rfl, by decide +kernel⟩ ?hw ?hc
  case hw => w_witness2
  case hc =>
    refine L2.walk_ofG (l := PySem.Challenge.rw_belowneeds_k12_nodes_and_parts) (n := 63) (k := 63) (x := "_law_script") (CX := L2.CX0) rfl (by decide) (by kernel_rfl) ⟨rfl, by decide, by decide⟩ ?F (fun _ _ _ _ z => z)
    intro w mg fa h Y G hmg0
    obtain ⟨K, KX, c⟩ := Y
    have hmg : mg ("law" : PySem.Str) = some (.ref fa) := by
      have e : (HandSHeadRun.topDef (OpenLaw.row PySem.Challenge.rw_belowneeds_k12_nodes_and_parts).prog K12.topI).name = ("law" : PySem.Str) := by kernel_rfl
      rw [← e]
      exact hmg0
    obtain ⟨fd, hb, hF⟩ := K12.facts (P := (PySem.Challenge.rw_belowneeds_k12_nodes_and_parts).prog) (w := w) KX G hmg c
    exact ⟨K, fd, K12.spLaw K, KX, hb, fun H a ns hl hS => ⟨a, ns, rfl, hS, hl, fun _ => rfl⟩, hF⟩
