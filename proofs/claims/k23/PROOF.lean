import PyProof.Rows.All
import Wide.All
import OpenK.AllK
import Wide.FinOn
import HandS.ForExc
import HandS.ExcInit
import HandS.ExcValue
import KE.KExcInit
import KE.KExcIs
import HandS.ForMost
import HandS.HeadHook2
import HandS.HeadEnd
import HandS.Defaults
import HandS.OwnEq
import HandS.Head0
import HandS.Head1
import HandS.Head2
import HandS.TryMany
import OpenK.KOps
import OpenK.KWalk
import OpenK.KMake
import PyProof.InstEq
import HandS.IsInst
import KE.KCallOwn
import HandS.FStr
import HandS.ClsMeth
import HandS.HeadHook3
import PyProof.EnumMake
import PyProof.EnumStmt
import PyProof.TupleIter
import HandS.Base
import HandS.Call
import HandS.Iter
import HandS.Walk
import HandS.Flow
import HandS.TupAny
import HandS.TupMul
import HandS.Star
import HandS.Property
import HandS.WideBits
import HandS.StrMore
import PyProof.ReprText
import PyProof.StrLaws
import HandS.Codes
import PySem.Challenge.RW_belowneeds_k23_whole_fills
set_option Elab.async false
set_option linter.all false
set_option maxRecDepth 100000
set_option maxHeartbeats 0
/-! Own exception classes over ValueError, LookupError, RuntimeError or ArithmeticError whose __init__ stores fields: how one is made (by place, by keyword), raised, read, asked for its class. -/
namespace PySem.Xk
open PySem.HandSPX Builtin Builtin.ObjectAttr
/-- the class object at C: over the chain bmB, made by newId -/
structure At (h : Heap) (C : Addr) (newId : String) (bmB : List Value) where
  (n m : Str) (ns : Addr) (bs up : List Value) (dct : Bool) (sl : List Str) (sb : List Value) (ab : Bool) (cl : Option Bool) (dl : Option Addr) (x0 x1 x2 x3 x5 : Option Value)
  obj : h.get? C = some (excClassObj n m C ns bs up dct sl sb ab cl dl x0 x1 x2 x3 x5 newId)
  tail : ∀ X : String, up.contains (.type X) = bmB.contains (.type X)
/-- the heap behind the making: the arguments' tuple, the instance -/
abbrev made (h : Heap) (C : Addr) (us : List Value) : Heap := (h.push (W.kdv_tup us)).push (excO C h.objs.size)
theorem made_old {h : Heap} {C : Addr} {us : List Value} (b : Addr) (o : Obj) (e : h.get? b = some o) : (made h C us).get? b = some o := Heap.get?_push_of_some _ (Heap.get?_push_of_some _ e)
theorem made_new {h : Heap} {C : Addr} {us : List Value} : (made h C us).get? (h.objs.size + 1) = some (excO C h.objs.size) := by heap_get
section
variable {B newId initId : String} {bmB us : List Value} {kw : List (Str × Value)} {C f : Addr} {h : Heap} {gs : Array GenState} {dr : Drawn} {n : Nat} {os : OsState} {P : Program} {w : World} {A : Around} {Z : Value → Shared → Prop} {R : Result → Shared → Prop}
theorem At.known (c : At h C newId bmB) {X : String} {b : Bool} (e : bmB.contains (.type X) = b) : (Value.ref C :: c.up).contains (.type X) = b := by
  rw [List.contains_cons, c.tail, e]
  rfl
/-- newId may be called on C -/
theorem mayMake {M : Model} {Q : Unit → Shared → Prop} (F : ExcBaseFacts B newId initId bmB) (c : At h C newId bmB) (q : Q () ⟨h, gs, dr, n, os⟩) : wpAny M A (checkBuiltinCall newId ⟨.ref C :: us, kw⟩) Q Z ⟨h, gs, dr, n, os⟩ := by
  have o := c.obj
  have isB := c.known F.hasB
  have star := F.noStar
  simp only [checkBuiltinCall, F.newRow, F.newKind, F.newSplit]
  repeat first
    | refine wpAny_loadPart_at o ?_
    | refine wpAny_isSubtype_exc o ?_; rw [isB]
    | refine wpAny_staticBase_exc o ?_
    | refine wpAny_madeBy_exc o ?_
    | simp only [if_false, bne_self_eq_false, Bool.false_eq_true]
    | wp_step
  exact q
/-- what newId makes; keywords are let be -/
theorem make (F : ExcBaseFacts B newId initId bmB) (c : At h C newId bmB) (z : us.length ≤ sizeLine) (q : R (.ok (.ret (.ref (h.objs.size + 1)))) ⟨made h C us, gs, dr, n, os⟩) :
    codeAny (model P w) A (.builtin newId ⟨.ref C :: us, kw⟩) R ⟨h, gs, dr, n, os⟩ := by
  have ends := F.ends
  have o := c.obj
  have isB := c.known F.hasB
  have notA := c.known F.noAttr
  have notN := c.known F.noName
  refine codeAny_builtinAt F.entry ?_
  unfold Builtin.«BaseException.__new__»
  refine wpAt_bind (show wpAt _ _ _ (stack >>= _) _ _ _ from wpAt_bind (wpAt_stack fun _ _ => wpAt_of_wpAny ?_))
  wp_walk
  refine wpAt_of_wpAny ?_
  rw [F.owner]
  repeat first
    | with_reducible refine wpAny_madeHere_exc F.canon o ?_
    | with_reducible refine wpAny_loadPart_at o ?_
    | with_reducible refine wpAny_isSubtype_exc o ?_; first | rw [isB] | rw [notA] | rw [notN]
    | wp_step
  show R _ _
  rw [Heap.size_push]
  exact q
/-- type.__call__ on C: made, then its __init__ at f -/
theorem byType {Q : Fin → Shared → Prop} (F : ExcBaseFacts B newId initId bmB) (c : At h C newId bmB) (i : W.Looks (model P w) h (typeLookup (.ref C) "__init__") (some (.ref f))) (m : ∀ x, W.Looks (model P w) h (bindSpecial (.ref f) x) (.ref f, [x])) (z : us.length ≤ sizeLine)
    (q : codeAny (model P w) A (.call (.ref f) ⟨.ref (h.objs.size + 1) :: us, kw⟩) (fun r s => match r with | .ok (.ret v) => v = .none ∧ Q (.done (.ret (.ref (h.objs.size + 1)))) s | .ok _ => False | .error e => Z e s) ⟨made h C us, gs, dr, n, os⟩) :
    wpAny (model P w) A (Builtin.«type.__call__» ⟨.ref C :: us, kw⟩) Q Z ⟨h, gs, dr, n, os⟩ := by
  have o := c.obj
  repeat first
    | with_reducible refine wpAny_loadPart_at o ?_
    | with_reducible refine wpAny_madeBy_exc o ?_
    | wp_step
  refine codeAny_call_builtin_code (Code.quiet_builtin _ F.quiet) (mayMake F c (make F c z ?_))
  show wpAny _ _ _ _ _ _
  have o' := made_old (us := us) (C := C) _ _ o
  have own : (Value.ref C :: c.up).contains (.ref C) = true := by simp
  have i' := i.keeps (made_old (us := us) (C := C))
  have m' := (m (.ref (h.objs.size + 1))).keeps (made_old (us := us) (C := C))
  unfold isInstance
  repeat first
    | with_reducible refine wpAny_loadPart_at made_new ?_
    | with_reducible refine wpAny_isSubtype_exc o' ?_; rw [own]
    | wp_step
  refine (show wpAny _ _ (typeLookup (.ref C) _) _ _ _ from i'.at (wpAny_holding (wpAny_bind (m'.at (wpAny_bind (wpAny_call (codeAny_mono q fun r s y => ?_)))))))
  match r, y with
  | .error _, y => exact y
  | .ok (.ret _), ⟨rfl, y⟩ =>
    first
      | exact wpAny_pure (wpAny_pure y)
      | wp_walk; exact y
/-- C called, with keywords or without -/
theorem called (F : ExcBaseFacts B newId initId bmB) (c : At h C newId bmB) (i : W.Looks (model P w) h (typeLookup (.ref C) "__init__") (some (.ref f))) (m : ∀ x, W.Looks (model P w) h (bindSpecial (.ref f) x) (.ref f, [x])) (z : us.length ≤ sizeLine)
    (q : codeAny (model P w) (A.under (.builtin "type.__call__" ⟨.ref C :: us, kw⟩)) (.call (.ref f) ⟨.ref (h.objs.size + 1) :: us, kw⟩) (W.InitBack (h.objs.size + 1) R) ⟨made h C us, gs, dr, n, os⟩) :
    codeAny (model P w) A (.call (.ref C) ⟨us, kw⟩) R ⟨h, gs, dr, n, os⟩ := by
  have o := c.obj
  have l := tc_lookup
  have b := tc_bind (.ref C)
  have ty : Shared.TypeIs ⟨h, gs, dr, n, os⟩ (.ref C) "type" := ⟨_, o, rfl⟩
  refine codeAny_of_tree (show wpAny _ _ (callAny (.ref C) _) _ _ _ from ?_)
  repeat any_goals first
    | assumption
    | with_reducible refine wpAny_loadPart_at o ?_
    | wp_step
  refine ⟨rfl, codeAny_call_builtin_at (Code.quiet_builtin _ (by decide +kernel)) entry_typeCall ?_⟩
  have may : ∀ {Q : Unit → Shared → Prop} {G : Around} {Y : Value → Shared → Prop}, Q () ⟨h, gs, dr, n, os⟩ → wpAny (model P w) G (checkBuiltinCall "type.__call__" ⟨.ref C :: us, kw⟩) Q Y ⟨h, gs, dr, n, os⟩ := fun {Q G Y} y => by
    have sub := tc_sub
    simp only [checkBuiltinCall, tc_split, tc_kind]
    repeat any_goals first
      | assumption
      | with_reducible refine wpAny_loadPart_at o ?_
      | with_reducible refine wpAny_onRaise ?_
      | with_reducible refine wpAny_map ?_
      | wp_step
  refine may (byType F c i m z (codeAny_mono q fun r s y => ?_))
  match r, y with
  | .error _, y => exact y
  | .ok (.ret _), y => exact y
end
end PySem.Xk

namespace PySem.Xk
open PySem.W PySem.Calls PyProof.Rows PySem.HandSPX Builtin Builtin.ObjectAttr
section
variable {P : Program} {w : World} {A : Around} {R : Result → Shared → Prop} {h : Heap} {gs : Array GenState} {dr : Drawn} {n : Nat} {os : OsState} {B : String} {bmB : List Value} {K : W.Frag} {f : Str} {k : Tok} {v : Value} {x C d : Addr} {fv : Array Value}
/-- what a store into the own dict comes back with -/
abbrev Back (P : Program) (w : World) (A : Around) (R : Result → Shared → Prop) : Fin → Shared → Prop := fun fin s' => match fin with
  | .done r => R (.ok r) s'
  | .again c => c.quiet = true ∧ codeAny (model P w) A c R s'
/-- object.__setattr__ on an instance comes to its own dict -/
theorem toOwn {ox : Obj} {od : Option Obj} (S : StoreFacts B bmB "object.__setattr__" "object") (X : K.In h) (I : InstAt h x ox C od) (over : excOver K C bmB = true) (dct : hasDictIn K C = true) (no : W.findIn K (.ref C) f = some none)
    (q : ∀ cd : ClassData, cd.hasDict = true → W.Looks (model P w) h (classData C) cd → ∀ b : Bool, wpAny (model P w) A.in1 (storeInOwnDict (.ref x) (.ref C) (.str f k) f v b) (Back P w A R) (fun e s => R (.error e) s) ⟨h, gs, dr, n, os⟩) :
    codeAny (model P w) A (.call (.builtin "object.__setattr__") ⟨[.ref x, .str f k, v], []⟩) R ⟨h, gs, dr, n, os⟩ := by
  obtain ⟨cd, e, dct⟩ := any_some dct
  exact osa_openX S X I over (L2.NoAttr.taker no) fun b => q cd dct (W.looks_clsIn X e) b
/-- the first field: a dict is made for it -/
theorem putFirst (S : StoreFacts B bmB "object.__setattr__" "object") (X : K.In h) (ex : h.get? x = some { cls := .ref C, data := .fields fv }) (over : excOver K C bmB = true) (dct : hasDictIn K C = true) (no : W.findIn K (.ref C) f = some none)
    (q : ∀ (G : Heap) (m : Nat) (d : Addr), h.objs.size ≤ d → d ≠ x → (∀ b o, b ≠ x → h.get? b = some o → G.get? b = some o) → G.get? x = some { cls := .ref C, dict := some d, data := .fields fv } → G.Ns1 d (fun y => if y = f then some v else none) → R (.ok (.ret .none)) ⟨G, gs, dr, m, os⟩) :
    codeAny (model P w) A (.call (.builtin "object.__setattr__") ⟨[.ref x, .str f k, v], []⟩) R ⟨h, gs, dr, n, os⟩ := by
  have lt := Heap.lt_size ex
  refine toOwn S X (od := none) ⟨ex, rfl, rfl, trivial⟩ over dct no fun cd dc lk b => ?_
  obtain ⟨_, _, _, _, _, _, _, _, _, _, _⟩ := cd
  obtain rfl : _ = true := dc
  unfold storeInOwnDict ownDictForStores
  repeat first
    | with_reducible refine store_in_new ?_ ?_
    | with_reducible refine wpAny_loadPart_at ex ?_
    | with_reducible refine lk.at ?_
    | wp_step
  · refine ⟨_, #[], _, (Heap.get?_update_ne _ _ _ _ (Nat.ne_of_gt lt)).trans (Heap.get?_push_at rfl rfl), rfl, fun e he => ?_, fun _ => rfl⟩
    simp at he
  · intro G m ns st
    refine q G m _ (Nat.le_refl _) (Nat.ne_of_gt lt) (fun b o hb e => ?_) ?_ ns
    · rw [st.2 b (Nat.ne_of_lt (Heap.lt_size e)), Heap.get?_update_ne _ _ _ _ hb]
      exact Heap.get?_push_of_some _ e
    · rw [st.2 x (Nat.ne_of_lt lt)]
      exact Heap.get?_update_self _ (Heap.get?_push_of_some _ ex) rfl
/-- a further field -/
theorem putMore {m0 : Str → Option Value} {nl : List Str} (S : StoreFacts B bmB "object.__setattr__" "object") (X : K.In h) (ex : h.get? x = some { cls := .ref C, dict := some d, data := .fields fv }) (ns : h.Ns1 d m0) (wi : Within m0 nl) (z : nl.length ≤ 1000)
    (over : excOver K C bmB = true) (dct : hasDictIn K C = true) (no : W.findIn K (.ref C) f = some none)
    (q : ∀ (G : Heap) (m : Nat), (∀ b o, b ≠ d → h.get? b = some o → G.get? b = some o) → G.Ns1 d (fun y => if y = f then some v else m0 y) → R (.ok (.ret .none)) ⟨G, gs, dr, m, os⟩) :
    codeAny (model P w) A (.call (.builtin "object.__setattr__") ⟨[.ref x, .str f k, v], []⟩) R ⟨h, gs, dr, n, os⟩ := by
  obtain ⟨od, _, _, e, _, _⟩ := ns.count wi
  refine toOwn S X (od := some od) ⟨ex, rfl, rfl, e⟩ over dct no fun cd dc lk b => ?_
  obtain ⟨_, _, _, _, _, _, _, _, _, _, _⟩ := cd
  obtain rfl : _ = true := dc
  unfold storeInOwnDict ownDictForStores
  repeat first
    | with_reducible refine OEX.store_in_old ns wi z ?_
    | with_reducible refine wpAny_loadPart_at ex ?_
    | with_reducible refine lk.at ?_
    | wp_step
  exact fun G m ns' st => q G m (fun b o hb e => by rw [st.2 b hb]; exact e) ns'
end
end PySem.Xk
namespace L2
open PySem PySem.Spec PyProof.Rows
/-- a class of the text over one of the built-in errors, as the written part tells it -/
structure XC (K : PySem.W.Frag) (C : Addr) : Prop where
  ex : ∃ B newId initId bmB, ExcBaseFacts B newId initId bmB ∧ StoreFacts B bmB "object.__setattr__" "object" ∧ PySem.W.excInitIn K C bmB newId = true ∧ PySem.W.excOver K C bmB = true
  (hd : PySem.W.hasDictIn K C = true) (sa : PySem.W.findIn K (.ref C) "__setattr__" = some (some (.builtin "object.__setattr__"))) (ga : PySem.W.findIn K (.ref C) "__getattribute__" = some (some (.builtin "BaseException.__getattribute__")))
  (gg : PySem.W.findIn K (.ref C) "__getattr__" = some none) (exC : PySem.W.subIn K (.ref C) (.type "BaseException") = some true) (tyC : PySem.W.typeIn K (.ref C) = some (.type "type")) (kC : PySem.W.keepIn K (.ref C) = true)
  (ha : PySem.W.findIn K (.ref C) "__class__" = some (some (.builtin "object.__class__"))) (hn : PySem.W.specialIn K (.builtin "object.__class__") "__get__" = some (some (.builtin "getset_descriptor.__get__")))
  (ht : PySem.W.takesIn K (.builtin "object.__class__") = some true) (hm : PySem.W.mroIn K C (.type "object") = some true)
section
variable {X : Cx} {pins : List (Addr × Obj)} {σ : St} {H : Hp} {s : Shared} {a C d : Addr} {f : Str} {y : V} {u : Value} {fs : List (Str × V)} {Q : Unit → Shared → Prop} {E : Value → Shared → Prop} {A : Around}
/-- no other object at d's and a's places -/
theorem two_ne {c : Addr} {o r : HO} (e : H a = some r) (n : H d = none) (ec : H c = some o) (dif : o ≠ r) : c ≠ a ∧ c ≠ d := by
  refine ⟨fun z => ?_, fun z => ?_⟩
  · rw [z, e] at ec
    exact dif (Option.some.inj ec).symm
  · rw [z, n] at ec
    cases ec
theorem two_at {c : Addr} {o g : HO} (q : c ≠ a ∧ c ≠ d) : upd (upd H d g) a o c = H c := by rw [upd_ne q.1, upd_ne q.2]
/-- the first field of an error -/
theorem field1 (T : XC X.K C) (I : Inv X pins σ H s) (e : H a = some (exo a C none)) (no : PySem.W.findIn X.K (.ref C) f = some none) (ry : RelV y u)
    (q : ∀ d s', H d = none → d ≠ a → Inv X pins σ (upd (upd H d (exd d [(f, y)])) a (exo a C (some d))) s' → Q () s') : wpAny (model X.prog X.w) A (setAttr (.ref a) f u) Q E s := by
  obtain ⟨_, _, _, _, _, SF, _, over⟩ := T.ex
  obtain ⟨t, at_⟩ := exo_at I.hok e
  obtain ⟨h, gs, dr, n, os⟩ := s
  refine PySem.W.set_plain I.kIn (od := none) ⟨at_, rfl, rfl, trivial⟩ T.sa (PySem.Xk.putFirst SF I.kIn at_ over T.hd no fun G m d dn da k hx hn => ?_)
  have fd : H d = none := I.hok.fresh dn
  have far : ∀ {b : Addr}, H b = none → b ≠ a := fun {b} z w => by
    rw [w, e] at z
    cases z
  have other : ∀ {b : Addr} {o : HO}, H b = some o → o ≠ exo a C none → upd (upd H d (exd d [(f, y)])) a (exo a C (some d)) b = some o := fun {b o} z dif => (two_at (two_ne e fd z dif)).trans z
  have tupN : ∀ xs, HO.tup xs ≠ exo a C none := fun _ z => by cases z
  have frzN : ∀ o v, HO.frz o v ≠ exo a C none := fun _ _ z => by cases z
  have ownN : ∀ b, HO.own b ≠ exo a C none := fun _ z => by cases z
  have tblN : ∀ ps, HO.tbl ps ≠ exo a C none := fun _ z => by cases z
  have apart : ∀ {b : Addr} {o : Obj}, h.get? b = some o → b ≠ d := fun {b o} z w => Nat.lt_irrefl _ (Nat.lt_of_lt_of_le (Heap.lt_size (w ▸ z)) dn)
  have un : Un X.fs [] H (upd (upd H d (exd d [(f, y)])) a (exo a C (some d))) h G :=
    ⟨fun b o z w _ _ => k b o (far w) z, fun b o z w _ _ => ⟨_, k b o (far w) z⟩, fun b o z w _ => (two_at ⟨far w, apart z⟩).trans w, fun b o z _ => (Decidable.em (b = a)).elim (fun w => ⟨_, w ▸ hx⟩) fun w => ⟨o, k b o w z⟩,
      fun b xs z => other z (tupN xs), fun b o v z => other z (frzN o v), fun b ps z => ⟨#[], by rw [other z (tblN ps)]; simp⟩⟩
  refine q d _ fd da (I.un (t' := m) un fun b o z => ?_)
  rcases Decidable.em (b = a) with rfl | ba
  · obtain rfl := Option.some.inj (upd_same.symm.trans z)
    exact exo_ok hx
  rcases Decidable.em (b = d) with rfl | bd
  · obtain rfl := Option.some.inj ((upd_ne ba).trans upd_same |>.symm.trans z)
    exact exd_ok hn (relO_put (fs := []) ry fun _ => trivial)
  rw [two_at ⟨ba, bd⟩] at z
  refine (I.hok b o z).stay (fun c v hc w => k c v ?_ w) (fun c w => other w (ownN b)) fun c xs w => other w (tupN xs)
  rcases hc with rfl | hc
  · exact ba
  · exact (two_ne e fd hc (ownN b)).1
/-- a further field of an error -/
theorem field2 (T : XC X.K C) (I : Inv X pins σ H s) (e : H a = some (exo a C (some d))) (ed : H d = some (exd d fs)) (few : fs.length ≤ 900) (no : PySem.W.findIn X.K (.ref C) f = some none) (ry : RelV y u)
    (q : ∀ s', Inv X pins σ (upd H d (exd d ((f, y) :: fs))) s' → Q () s') : wpAny (model X.prog X.w) A (setAttr (.ref a) f u) Q E s := by
  obtain ⟨_, _, _, _, _, SF, _, over⟩ := T.ex
  obtain ⟨t, at_⟩ := exo_at I.hok e
  obtain ⟨m0, ns, rel⟩ := exd_at I.hok ed
  obtain ⟨h, gs, dr, n, os⟩ := s
  obtain ⟨od, _, _, eo, _, _⟩ := ns.count (within_of rel)
  refine PySem.W.set_plain I.kIn (od := some od) ⟨at_, rfl, rfl, eo⟩ T.sa (PySem.Xk.putMore SF I.kIn at_ ns (within_of rel) (by simp only [List.length_map]; omega) over T.hd no fun G m k ns' => q _ ?_)
  refine I.write (t' := m) (x := d) (e := d) (o := exd d ((f, y) :: fs)) (by rw [ed]; trivial) (.inl rfl) k ?_ (exd_ok ns' (relO_put ry rel))
  obtain ⟨o, _, _, w, _⟩ := ns'
  exact ⟨o, w⟩
end
/-- self.f = e of an error: what is stored, then where -/
def tOstX (K : PySem.W.Frag) (f : Str) (to te : TE) : TS := fun D σ H => te σ H fun y H1 => to σ H1 fun x H2 => ∃ a C : Addr, x = .ref a ∧ XC K C ∧ PySem.W.findIn K (.ref C) f = some none ∧
  ((H2 a = some (exo a C none) ∧ ∀ d, H2 d = none → d ≠ a → D.nx σ (upd (upd H2 d (exd d [(f, y)])) a (exo a C (some d)))) ∨
    ∃ (d : Addr) (fs : List (Str × V)), H2 a = some (exo a C (some d)) ∧ H2 d = some (exd d fs) ∧ fs.length ≤ 900 ∧ D.nx σ (upd H2 d (exd d ((f, y) :: fs))))
theorem ps_ostX {X : Cx} {o e : Expr} {to te : TE} {f : Str} {p' pos : Pos} (ho : PE X o to) (he : PE X e te) (hs : swapsWith e (some (.Attribute o f p')) pos.line X.env = pure false := by rfl) : PS X (.Assign [.Attribute o f p'] e pos) (tOstX X.K f to te) :=
  ⟨fun pins s σ H D I h => plainObj_wpAny_Assign_Attribute (thn (he.run pins s σ H _ I h) fun v s1 ⟨y, H1, I1, r1, q1⟩ => thn (ho.run pins s1 σ H1 _ I1 q1) fun u s2 ⟨x, H2, I2, r2, a, C, ex, T, no, w⟩ => by
    subst ex
    obtain rfl : u = Value.ref a := r2
    exact w.elim (fun ⟨e1, q⟩ => field1 T I2 e1 no r1 fun d s' n ne J => ⟨σ, _, J, q d n ne⟩) fun ⟨d, fs, e1, e2, few, q⟩ => field2 T I2 e1 e2 few no r1 fun s' J => ⟨σ, _, J, q⟩) hs⟩
end L2

namespace L2
open PySem PySem.Spec PyProof.Rows
/-- C(e, ..): the instance, then __init__ keeping sp -/
def tMkX (C : Addr) (sp : Sp) (ta : TA) : TE := fun σ H Q => ta σ H fun vs H1 => vs.length ≤ 1000 ∧ ∀ a, H1 a = none → sp (.ref a :: vs) (upd H1 a (exo a C none)) (fun v H2 => v = .non ∧ Q (.ref a) H2) E0
/-- C(k = e, ..): by n keywords alone; gV puts the values into the sequence of the parameters -/
def tMkXK (C : Addr) (n : Nat) (sp : Sp) (gV : List V → List V) (tk : TA) : TE := fun σ H Q => tk σ H fun zs H1 => zs.length = n ∧ ∀ a, H1 a = none → sp (.ref a :: gV zs) (upd H1 a (exo a C none)) (fun v H2 => v = .non ∧ Q (.ref a) H2) E0
/-- C(), no __init__ -/
def tMk0 (C : Addr) : TE := fun _ H Q => ∀ a, H a = none → Q (.ref a) (upd H a (exo a C none))
/-- raise C(e, ..): made, then let go -/
def tMkR (C : Addr) (sp : Sp) (ta : TA) : St → Hp → XK → Prop := fun σ H Q => ta σ H fun vs H1 => vs.length ≤ 1000 ∧ ∀ a, H1 a = none → sp (.ref a :: vs) (upd H1 a (exo a C none))
  (fun v H2 => v = .non ∧ ∃ (d : Addr) (fs : List (Str × V)), H2 a = some (exo a C (some d)) ∧ H2 d = some (exd d fs) ∧ H1 d = none ∧ Q (.ref C) (some d) (upd (del H2 a) d (.xd fs))) E0
/-- how keywords alone bind behind self -/
structure KB (K : PySem.W.Frag) (fd : FuncData) (ps ks : List Str) (g : List Value → List Value) (gV : List V → List V) : Prop where
  to : ∀ (s : Shared) (a : Addr) (ws : List Value), K.In s.heap → ws.length = ks.length → BindsTo s fd ⟨[.ref a], ks.zip ws⟩ (ps.zip (.ref a :: g ws))
  rel : ∀ {zs : List V} {ws : List Value}, zs.length = ks.length → Vals zs ws → Vals (gV zs) (g ws)
/-- the __init__ of the class at C: it stands at f, is a def, keeps sp, may be called here -/
structure Init (X : Cx) (CX : CXT) (k : Nat) (C f : Addr) (fd : FuncData) (ps : List Str) (sp : Sp) : Prop where
  xc : XC X.K C
  at_ : PySem.W.findIn X.K (.ref C) "__init__" = some (some (.ref f))
  fn : PySem.W.typeIn X.K (.ref f) = some (.type "function")
  ok : FnOk X.prog X.w X.K X.mg X.base CX k f fd ps sp
  room : Room (k + 1) X.A
  out : Passes CX X (fun _ _ _ => False)
section
variable {X : Cx} {CX : CXT} {k : Nat} {fI C : Addr} {fd : FuncData} {ps : List Str} {sp : Sp} {x : Str} {p pos : Pos} {e : Expr} {es : List Expr} {ta tk : TA}
/-- C called: what stands behind its __init__ is handed to fin -/
theorem Init.call (T : Init X CX k C fI fd ps sp) {pins : List (Addr × Obj)} {σ : St} {H1 : Hp} {s1 : Shared} {Φ : Addr → VK} {R : Value → Shared → Prop} {us args : List Value} {kw : List (Str × Value)} {vs : List V} (I1 : Inv X pins σ H1 s1)
    (hb : ∀ (s : Shared) (a : Addr), X.K.In s.heap → BindsTo s fd ⟨.ref a :: us, kw⟩ (ps.zip (.ref a :: args))) (rv : Vals vs args) (hl : us.length ≤ sizeLine) (q1 : ∀ a, H1 a = none → sp (.ref a :: vs) (upd H1 a (exo a C none)) (Φ a) E0) (non : ∀ a v H, Φ a v H → v = .non)
    (fin : ∀ (a : Addr) (s2 s3 : Shared), s1.heap.objs.size ≤ a → (∀ b o, s1.heap.get? b = some o → s2.heap.get? b = some o) → s2.os = s1.os → Inv X pins σ (upd H1 a (exo a C none)) s2 → CR CX X.stack X.prog X.w (upd H1 a (exo a C none)) s2 (Φ a) E0 (.ok (.ret .none)) s3 → R (.ref a) s3) :
    wpAny (model X.prog X.w) X.A (PySem.call (.ref C) us kw) R X.xe s1 := by
  obtain ⟨_, _, _, _, FB, _, qI, _⟩ := T.xc.ex
  obtain ⟨n, N, m, bs, bm, hdct, sn, sub, ab, col, dd, k0, k1, k2, k3, k5, hC, hT⟩ := PySem.W.excInit_of I1.kIn qI
  obtain ⟨h, g, dr, n', os⟩ := s1
  have c : PySem.Xk.At h C _ _ := ⟨_, _, _, _, _, _, _, _, _, _, _, _, _, _, _, _, hC, hT⟩
  have hq := q1 (h.objs.size + 1) (I1.hok.fresh (Nat.le_succ _))
  have I2 : Inv X pins σ (upd H1 (h.objs.size + 1) (exo (h.objs.size + 1) C none)) ⟨PySem.Xk.made h C us, g, dr, n', os⟩ := I1.laid (t' := n') PySem.Xk.made_old (Nat.le_succ _) (exo_ok PySem.Xk.made_new)
  have rv' : Vals (V.ref (h.objs.size + 1) :: vs) (Value.ref (h.objs.size + 1) :: args) := .cons rfl rv
  refine wpAny_call (PySem.Xk.called FB c (PySem.W.looks_findIn I1.kIn T.at_) (fun y => PySem.W.bind_fn I1.kIn y T.fn) hl ?_)
  refine codeAny_mono (T.ok.run _ X.stack _ _ ⟨Value.ref (h.objs.size + 1) :: us, kw⟩ (Value.ref (h.objs.size + 1) :: args) _ _ E0 (T.room.make C us kw) (I2.env0.make C us kw) (hb _ _ I2.kIn) rv' hq) fun r s' z => ?_
  match r, z with
  | .error er, z => exact T.out pins σ _ _ er s' I2 z
  | .ok (.ret u), z =>
    obtain ⟨v, _, _, _, _, _, rv2, q⟩ := id z
    obtain rfl := non _ _ _ q
    obtain rfl : u = Value.none := rv2
    exact ⟨rfl, fin _ ⟨PySem.Xk.made h C us, g, dr, n', os⟩ s' (Nat.le_succ _) PySem.Xk.made_old rfl I2 z⟩
theorem Init.value (T : Init X CX k C fI fd ps sp) {pins : List (Addr × Obj)} {σ : St} {H1 : Hp} {s1 : Shared} {Q : VK} {us args : List Value} {kw : List (Str × Value)} {vs : List V} (I1 : Inv X pins σ H1 s1)
    (hb : ∀ (s : Shared) (a : Addr), X.K.In s.heap → BindsTo s fd ⟨.ref a :: us, kw⟩ (ps.zip (.ref a :: args))) (rv : Vals vs args) (hl : us.length ≤ sizeLine) (q1 : ∀ a, H1 a = none → sp (.ref a :: vs) (upd H1 a (exo a C none)) (fun v H2 => v = .non ∧ Q (.ref a) H2) E0) :
    wpAny (model X.prog X.w) X.A (PySem.call (.ref C) us kw) (EP X pins σ Q) X.xe s1 :=
  T.call (Φ := fun a v H2 => v = .non ∧ Q (.ref a) H2) I1 hb rv hl q1 (fun _ _ _ q => q.1) fun a s2 s3 _ _ _ I2 z => by
    obtain ⟨v, H2, I3, _, _, q⟩ := I2.after z
    exact ⟨V.ref a, H2, I3, rfl, q⟩
/-- arguments by place bind behind self -/
theorem Init.binds (T : Init X CX k C fI fd ps sp) (hb : Binds X.K fd ps []) {s1 : Shared} {us : List Value} {vs : List V} {H1 : Hp} {Q : VK} {E : XK} {a' : Addr} {G : Hp} (r : Vals vs us) (q : sp (.ref a' :: vs) G Q E) (s : Shared) (a : Addr) (hK : X.K.In s.heap) : BindsTo s fd ⟨.ref a :: us, []⟩ (ps.zip (.ref a :: us)) := by
  have l := T.ok.len _ _ _ _ q
  rw [List.length_cons, Paired.length r] at l
  have b := hb s (.ref a :: us) hK (by simpa using l)
  rw [List.append_nil] at b
  exact b
/-- C(e, ..) -/
theorem pe_exc (T : XC X.K C) (iC : PySem.W.findIn X.K (.ref C) "__init__" = some (some (.ref fI))) (tI : PySem.W.typeIn X.K (.ref fI) = some (.type "function"))
    (F1 : FnOk X.prog X.w X.K X.mg X.base CX k fI fd ps sp) (hr : Room (k + 1) X.A) (hb : Binds X.K fd ps []) (hx : Passes CX X (fun _ _ _ => False)) (hg : Gl X x) (hm : X.mg x = some (.ref C)) (ha : PA X (e :: es) ta)
    (hdb : (x == ("__debug__" : Str)) = false := by decide)
    (he : starEach (e :: es) X.env = (false, eval e X.env) :: starEach es X.env := by rfl)
    (hpl : (backTo pos (starEach es X.env)).any (·.1) = false := by rfl) : PE X (.Call (.Name x p) (e :: es) [] pos) (tMkX C sp ta) := by
  have J : Init X CX k C fI fd ps sp := ⟨T, iC, tI, F1, hr, hx⟩
  constructor
  intro pins s σ H Q I h
  refine wpAny_Call_Name_kw (ld_glob I hg hm (PySem.W.callWith_K (h₀ := X.base) I.ok.mod.kin T.kC (thn (ha.run pos pins s σ H _ I h) fun us s1 w => ?_) he hpl) hdb)
  obtain ⟨vs, H1, I1, r, z, q⟩ := w
  exact ⟨I1.kIn, J.value (kw := []) I1 (J.binds (s1 := s1) (H1 := H1) hb r (q (s1.heap.objs.size) (I1.hok.fresh (Nat.le_refl _)))) r (by show us.length ≤ _; rw [← Paired.length r, sizeLine_eq]; omega) q⟩
/-- C(k = e, ..) -/
theorem pe_excK {ks : List Str} {kws : List Keyword} {g : List Value → List Value} {gV : List V → List V} (T : XC X.K C) (iC : PySem.W.findIn X.K (.ref C) "__init__" = some (some (.ref fI))) (tI : PySem.W.typeIn X.K (.ref fI) = some (.type "function"))
    (F1 : FnOk X.prog X.w X.K X.mg X.base CX k fI fd ps sp) (hr : Room (k + 1) X.A) (hb : KB X.K fd ps ks g gV) (hx : Passes CX X (fun _ _ _ => False)) (hg : Gl X x) (hm : X.mg x = some (.ref C)) (hkw : PK X kws tk)
    (hall : (backToKw pos (keywordEach kws X.env)).all (·.1.isSome) = true := by rfl) (hks : (backToKw pos (keywordEach kws X.env)).filterMap (·.1) = ks := by rfl)
    (hdb : (x == ("__debug__" : Str)) = false := by decide)
    (hpl : ((backTo pos (starEach [] X.env)).any (·.1) || (backToKw pos (keywordEach kws X.env)).any (·.1.isNone)) = false := by rfl) : PE X (.Call (.Name x p) [] kws pos) (tMkXK C ks.length sp gV tk) := by
  have J : Init X CX k C fI fd ps sp := ⟨T, iC, tI, F1, hr, hx⟩
  constructor
  intro pins s σ H Q I h
  refine wpAny_Call_Name_kw (ld_glob I hg hm (PySem.W.callWith_KW0 (h₀ := X.base) I.ok.mod.kin T.kC hall (thn (hkw.run pos pins s σ H _ I h) fun ws s2 w => ?_) hpl) hdb)
  obtain ⟨zs, H2, I2, r, l, q⟩ := w
  rw [hks]
  exact ⟨I2.kIn, J.value (us := []) (kw := ks.zip ws) I2 (fun s a hK => hb.to s a ws hK (r.length.symm.trans l)) (hb.rel l r) (by rw [sizeLine_eq]; decide) q⟩
/-- raise's C(e, ..) -/
theorem pmk_exc (T : XC X.K C) (iC : PySem.W.findIn X.K (.ref C) "__init__" = some (some (.ref fI))) (tI : PySem.W.typeIn X.K (.ref fI) = some (.type "function"))
    (F1 : FnOk X.prog X.w X.K X.mg X.base CX k fI fd ps sp) (hr : Room (k + 1) X.A) (hb : Binds X.K fd ps []) (hx : Passes CX X (fun _ _ _ => False)) (hg : Gl X x) (hm : X.mg x = some (.ref C)) (ha : PA X (e :: es) ta)
    (hdb : (x == ("__debug__" : Str)) = false := by decide)
    (he : starEach (e :: es) X.env = (false, eval e X.env) :: starEach es X.env := by rfl)
    (hpl : (backTo pos (starEach es X.env)).any (·.1) = false := by rfl) : PMk X (.Call (.Name x p) (e :: es) [] pos) (tMkR C sp ta) := by
  have J : Init X CX k C fI fd ps sp := ⟨T, iC, tI, F1, hr, hx⟩
  intro pins s σ H Q I h
  refine wpAny_Call_Name_kw (ld_glob I hg hm (PySem.W.callWith_K (h₀ := X.base) I.ok.mod.kin T.kC (thn (ha.run pos pins s σ H _ I h) fun us s1 w => ?_) he hpl) hdb)
  obtain ⟨vs, H1, I1, r, z, q⟩ := w
  refine ⟨I1.kIn, J.call (kw := []) I1 (J.binds (s1 := s1) (H1 := H1) hb r (q (s1.heap.objs.size) (I1.hok.fresh (Nat.le_refl _)))) r (by show us.length ≤ _; rw [← Paired.length r, sizeLine_eq]; omega) q (fun _ _ _ y => y.1) fun a s2 s3 le up eo _ y => ?_⟩
  obtain ⟨_, _, eo3, bare, un, hok, _, _, d, fs, ea, ed, nd, q2⟩ := y
  exact mk_end (raises_own T.exC T.tyC) I1 le up un hok (eo3.trans eo) bare ea ed nd q2
/-- C(), no __init__ of its own -/
theorem pe_exc0 {bmB : List Value} {B newId initId : String} (T : XC X.K C) (F : ExcBaseFacts B newId initId bmB) (q : PySem.W.excIn X.K C bmB newId = true) (hg : Gl X x) (hm : X.mg x = some (.ref C)) (hdb : (x == ("__debug__" : Str)) = false := by decide) : PE X (.Call (.Name x p) [] [] pos) (tMk0 C) := by
  constructor
  intro pins s σ H Q I h
  refine wpAny_Call_Name_kw (ld_glob I hg hm (PySem.W.callWith_K0 I.kIn T.kC ?_) hdb)
  obtain ⟨_, _, _, _, _, _, _, _, _, _, _, _, _, _, _, _, _, hC, hN, no, tail⟩ := exc_obj I.kIn q
  refine (show wpAny _ _ (PySem.call (.ref C) []) _ _ _ from wpAny_call_exc_subT F tail hC hN no (fun G a m => ?_) (Nat.zero_le _))
  have na : H a = none := I.hok.gone m.new
  obtain ⟨_, ea, _⟩ := m.there
  exact ⟨V.ref a, upd H a (exo a C none), I.laidN m.keeps m.new na (exo_ok ea), rfl, h a na⟩
end
/-! ### a field read, the class asked -/
/-- e.f of an error e -/
def tXf (K : PySem.W.Frag) (te : TE) (f : Str) : TE := fun σ H Q => te σ H fun x H1 => ∃ (a C d : Addr) (fs : List (Str × V)) (v : V), x = .ref a ∧ XC K C ∧ PySem.W.findIn K (.ref C) f = some none ∧ H1 a = some (exo a C (some d)) ∧ H1 d = some (exd d fs) ∧ fs.lookup f = some v ∧ Q v H1
/-- n.f in the suite of an except clause, n the exception at a -/
def tXdf (K : PySem.W.Frag) (a : Addr) (cls : Value) (d : Option Addr) (te : TE) (f : Str) : TE := fun σ H Q => te σ H fun x H1 => x = .ref a ∧ ∃ (C dd : Addr) (fs : List (Str × V)) (v : V), cls = .ref C ∧ XC K C ∧ PySem.W.findIn K (.ref C) f = some none ∧
  d = some dd ∧ H1 dd = some (.xd fs) ∧ fs.lookup f = some v ∧ Q v H1
section
variable {X : Cx} {e : Expr} {te : TE} {f : Str} {pos : Pos}
/-- the field's value, from the dict at d -/
theorem XC.field {C a d : Addr} (T : XC X.K C) (no : PySem.W.findIn X.K (.ref C) f = some none) {s : Shared} {fs : List (Str × V)} {v : V} {b : Bool} {Q : Value → Shared → Prop} {A : Around} {E : Value → Shared → Prop} {o : Obj} (kin : X.K.In s.heap) (ea : s.heap.get? a = some o)
    (ec : o.cls = .ref C) (ed : o.dict = some d) (nc : PySem.W.notCls o = true) (ens : ∃ mA, s.heap.Ns1 d mA ∧ ∀ g, RelO (fs.lookup g) (mA g)) (hl : fs.lookup f = some v) (q : ∀ u n, RelV v u → Q u { s with toks := n }) : wpAny (model X.prog X.w) A (getAttr (.ref a) f b) Q E s := by
  obtain ⟨mA, ns, rel⟩ := ens
  obtain ⟨od, eo, look⟩ := lookIn_ns ns
  obtain ⟨u, eu, ru⟩ := RelO.some_of (o := mA f) (hl ▸ rel f)
  have J : PySem.W.InstAt s.heap a o C (some od) := ⟨ea, ec, nc, by rw [ed]; exact eo⟩
  exact HandSPX.exc_get kin J T.ga T.gg T.exC (PySem.W.findObj_own T.hd no rfl (by rw [look, eu])) (handed_of ru) (q u _ ru)
theorem pe_xfld (he : PE X e te) (hb : attributeBase e f X.env (eval e X.env) = eval e X.env := by rfl) : PE X (.Attribute e f pos) (tXf X.K te f) :=
  ⟨fun pins s σ H Q I h => attr_of hb (thn (he.run pins s σ H _ I h) fun u s1 ⟨x, H1, I1, r1, a, C, d, fs, v, ex, T, no, ea, ed, hl, q⟩ => by
    subst ex
    obtain rfl : u = Value.ref a := r1
    obtain ⟨_, at_⟩ := exo_at I1.hok ea
    exact T.field no I1.kIn at_ rfl rfl rfl (exd_at I1.hok ed) hl fun u n ru => ⟨v, H1, I1.tok n, ru, q⟩)⟩
theorem pe_xdf {a : Addr} {oe : Obj} {cls : Value} {d : Option Addr} {pn : List (Addr × Obj)} (hz : Zc cls d oe) (hf : ∃ vs, oe.data = .fields vs) (he : PE (X.suite a ((a, oe) :: pn)) e te)
    (hb : attributeBase e f X.env (eval e X.env) = eval e X.env := by rfl) : PE (X.suite a ((a, oe) :: pn)) (.Attribute e f pos) (tXdf X.K a cls d te f) :=
  ⟨fun pins s σ H Q I h => attr_of hb (thn (he.run pins s σ H _ I h) fun u s1 ⟨x, H1, I1, r1, ex, C, dd, fs, v, ec, T, no, ed, e2, hl, q⟩ => by
    subst ex ec ed
    obtain rfl : u = Value.ref a := r1
    obtain ⟨vs, eo⟩ := hf
    exact T.field no I1.kIn (I1.pin (a, oe) (List.mem_append_left _ List.mem_cons_self)).1 hz.1 hz.2 (by unfold PySem.W.notCls; rw [eo]) (I1.hok dd _ e2) hl fun u n ru => ⟨v, H1, I1.tok n, ru, q⟩)⟩
/-- isinstance(e, c), e an error -/
def rIsX (K : PySem.W.Frag) : List V → Hp → VK → Prop := fun xs H Q => ∃ (a C : Addr) (d : Option Addr) (c : V) (cv : Value) (b : Bool), xs = [.ref a, c] ∧ XC K C ∧ H a = some (exo a C d) ∧ (∀ dd, d = some dd → ∃ fs, H dd = some (exd dd fs)) ∧
  (∀ u, RelV c u → u = cv) ∧ PySem.W.kitOne K (.ref C) cv = some b ∧ Q (.bl b) H
theorem call_isX : CallR X (.builtin "isinstance") (rIsX X.K) := by
  intro pins s σ H xs us Q I r h
  obtain ⟨a, C, d, c, cv, b, rfl, T, ea, hd, hcv, e, q⟩ := h
  obtain ⟨_, _, rfl, rx, rt⟩ : ∃ u1 u2, us = [u1, u2] ∧ RelV (V.ref a) u1 ∧ RelV c u2 := by
    cases r with
    | cons r1 r2 => cases r2 with
      | cons r2 r3 =>
        cases r3
        exact ⟨_, _, rfl, r1, r2⟩
  cases rx
  obtain rfl := hcv _ rt
  obtain ⟨t, at_⟩ := exo_at I.hok ea
  have cls : (PySem.W.clsIn X.K C).isSome = true := by
    obtain ⟨cd, w, _⟩ := PySem.W.any_some T.hd
    rw [w]
    rfl
  obtain ⟨od, J⟩ : ∃ od, PySem.W.InstAt s.heap a { cls := .ref C, dict := d, data := .fields #[.ref t, .none, .none, .none, .bool false, .none] } C od := by
    match d, hd, at_ with
    | none, _, at_ => exact ⟨none, at_, rfl, rfl, trivial⟩
    | some dd, hd, at_ =>
      obtain ⟨fs, ed⟩ := hd dd rfl
      obtain ⟨mA, ns, _⟩ := exd_at I.hok ed
      obtain ⟨od, eo, _⟩ := lookIn_ns ns
      exact ⟨some od, at_, rfl, rfl, eo⟩
  exact PySem.W.kia_one (PySem.W.kitx_exc cls T.ga T.gg T.exC T.ha T.hn T.ht T.hm) I.kIn J e (fun z => nomatch z) fun n => ⟨.bl b, H, I.kept (t' := n) fun _ _ z => z, rfl, q⟩
end
end L2

/-! Data that may hold dicts with text keys, read off the abstract heap; what repr makes of it. Defs that are promised only where no repr is running around them. -/
namespace L2
open PySem PySem.Spec PyProof.Rows
mutual
/-- v stands for the datum d (the lists, tuples and dicts in it are tracked or of the written part) -/
inductive Dd (K : PySem.W.Frag) (H : Hp) : V → PyData → Prop
  | non : Dd K H .non .none
  | bl (b : Bool) : Dd K H (.bl b) (.bool b)
  | int (i : Int) : Dd K H (.int i) (.int i)
  | str (x : Str) : Dd K H (.str x) (.str x)
  | lst {a : Addr} {xs : List V} {ds : List PyData} (h : SqL K H a xs) (t : Dds K H xs ds) : Dd K H (.ref a) (.list ds)
  | tup {a : Addr} {xs : List V} {ds : List PyData} (h : SqT K H a xs) (t : Dds K H xs ds) : Dd K H (.ref a) (.tuple ds)
  | dic {a : Addr} {kvs : List (Key × V)} {ks vs : List PyData} (h : H a = some (.dK kvs)) (k : Dds K H (kvs.map fun p => kV p.1) ks) (t : Dds K H (kvs.map (·.2)) vs) (l : ks.length = vs.length) : Dd K H (.ref a) (.dict (ks.zip vs))
inductive Dds (K : PySem.W.Frag) (H : Hp) : List V → List PyData → Prop
  | nil : Dds K H [] []
  | cons {v : V} {vs : List V} {d : PyData} {ds : List PyData} (h : Dd K H v d) (t : Dds K H vs ds) : Dds K H (v :: vs) (d :: ds)
end
mutual
theorem Dd.same {K : PySem.W.Frag} {H H' : Hp} (e : ∀ b o, H b = some o → H' b = some o) : ∀ {v : V} {d : PyData}, Dd K H v d → Dd K H' v d
  | _, _, .non => .non
  | _, _, .bl b => .bl b
  | _, _, .int i => .int i
  | _, _, .str x => .str x
  | _, _, .lst h t => .lst (h.ext e) (Dds.same e t)
  | _, _, .tup h t => .tup (h.ext e) (Dds.same e t)
  | _, _, .dic h k t l => .dic (e _ _ h) (Dds.same e k) (Dds.same e t) l
theorem Dds.same {K : PySem.W.Frag} {H H' : Hp} (e : ∀ b o, H b = some o → H' b = some o) : ∀ {v : List V} {d : List PyData}, Dds K H v d → Dds K H' v d
  | _, _, .nil => .nil
  | _, _, .cons h t => .cons (Dd.same e h) (Dds.same e t)
end
/-- the written part holds the dict of the loaded modules (so no list of ours stands there) -/
def smOk (K : PySem.W.Frag) : Bool := match K.lookup sysModules with
  | some ⟨.type c, _, .dict _ _, _⟩ => c == "dict"
  | _ => false
theorem sm_ne {K : PySem.W.Frag} {h : Heap} (X : K.In h) (q : smOk K = true) {a : Addr} {o : Obj} {vs : Array Value} {n : Nat} (ho : h.get? a = some o) (hd : o.data = .seq vs n) : a ≠ sysModules := by
  rintro rfl
  unfold smOk at q
  split at q
  · rename_i c d es ep sl e
    have z := (X _ _ e).symm.trans ho
    cases z
    cases hd
  · cases q
section
variable {X : Cx} {pins : List (Addr × Obj)} {σ : St} {H : Hp} {s : Shared}
theorem pairs_reads {prog : Program} {w : World} {h : Heap} : ∀ {es : List DictEntry} {vs : List (Key × Value)} {kvs : List (Key × V)}, Pairs (mixKind prog w) es vs → KV kvs vs →
    Vals (kvs.map fun p => kV p.1) (es.map (·.key)) ∧ Vals (kvs.map (·.2)) (es.map (·.val))
  | [], _, _, .nil, r => by
    cases r
    exact ⟨.nil, .nil⟩
  | e :: es, _, _, .cons h1 h2 h3, r => by
    cases r with
    | @cons p _ l1 _ a b =>
      obtain ⟨r1, r2⟩ := pairs_reads (h := h) h3 b
      obtain ⟨e1, e2⟩ := a
      have h1' : keyIs p.1 e.key = true := by
        rw [e1]
        exact h1
      refine ⟨.cons ?_ r1, .cons ?_ r2⟩
      · show RelV (kV p.1) e.key
        rcases keyIs_shape h1' with ⟨i, t, ei, z⟩ | ⟨x, t, ei, z⟩
        · rw [ei]
          exact ⟨t, z⟩
        · rw [ei]
          exact ⟨t, z⟩
      · show RelV p.2 e.val
        rw [h2]
        exact e2
mutual
theorem Dd.reads (I : Inv X pins σ H s) (q : smOk X.K = true) : ∀ {d : PyData} {v : V} {u : Value}, Dd X.K H v d → RelV v u → ∃ as, Reads s.heap u d as ∧ sysModules ∉ as
  | _, _, _, .non, r => by
    cases r
    exact ⟨_, Reads.none, by simp⟩
  | _, _, _, .bl b, r => by
    cases r
    exact ⟨_, Reads.bool b, by simp⟩
  | _, _, _, .int i, r => by
    obtain ⟨t, rfl⟩ := r
    exact ⟨_, Reads.int i t, by simp⟩
  | _, _, _, .str x, r => by
    obtain ⟨t, rfl⟩ := r
    exact ⟨_, Reads.str x t, by simp⟩
  | _, _, _, .lst h t, r => by
    cases r
    obtain ⟨its, rv, ⟨o, n, ho, hc, _, hd⟩, _⟩ := I.list h
    obtain ⟨as, hr, hn⟩ := Dds.reads I q t rv
    refine ⟨_, Reads.list ho hc hd hr, fun z => ?_⟩
    rcases List.mem_cons.mp z with z | z
    · exact sm_ne I.kIn q ho hd z.symm
    · exact hn z
  | _, _, _, .tup h t, r => by
    cases r
    obtain ⟨its, rv, ⟨o, ho, hc, n, hd⟩, _⟩ := I.tuple h
    obtain ⟨as, hr, hn⟩ := Dds.reads I q t rv
    exact ⟨_, Reads.tuple ho hc hd hr, hn⟩
  | _, _, _, @Dd.dic _ _ a kvs ks vs h k t l, r => by
    cases r
    obtain ⟨_, hsm, ws, rel, o, es, ep, ho, hx, hd, _, hp, _⟩ := I.hok a _ h
    obtain ⟨rk, rvs⟩ := pairs_reads (h := s.heap) hp rel
    obtain ⟨as, h1, n1⟩ := Dds.reads I q k rk
    obtain ⟨bs, h2, n2⟩ := Dds.reads I q t rvs
    have e1 : (ks.zip vs).map (·.1) = ks := List.map_fst_zip (by omega)
    have e2 : (ks.zip vs).map (·.2) = vs := List.map_snd_zip (by omega)
    refine ⟨_, Reads.dict ho hx.1 hd (by rw [e1]; exact h1) (by rw [e2]; exact h2), fun z => ?_⟩
    rcases List.mem_append.mp z with z | z
    · rcases List.mem_cons.mp z with z | z
      · rw [← z] at hsm
        exact absurd hsm (by decide)
      · exact n1 z
    · exact n2 z
theorem Dds.reads (I : Inv X pins σ H s) (q : smOk X.K = true) : ∀ {ds : List PyData} {vs : List V} {us : List Value}, Dds X.K H vs ds → Vals vs us → ∃ as, ReadsAll s.heap us ds as ∧ sysModules ∉ as
  | _, _, _, .nil, r => by
    cases r
    exact ⟨_, ReadsAll.nil, by simp⟩
  | _, _, _, .cons h t, r => by
    cases r with
    | cons r1 r2 =>
      obtain ⟨as, q1, n1⟩ := Dd.reads I q h r1
      obtain ⟨bs, q2, n2⟩ := Dds.reads I q t r2
      refine ⟨_, ReadsAll.cons q1 q2, fun z => ?_⟩
      rcases List.mem_append.mp z with z | z
      · exact n1 z
      · exact n2 z
end
end
/-- repr of a list, tuple or dict of data -/
def rRepr (K : PySem.W.Frag) : List V → Hp → VK → Prop := fun xs H Q => ∃ a d, xs = [.ref a] ∧ Dd K H (.ref a) d ∧ d.showable = true ∧ d.depth ≤ 20 ∧ d.shown.length ≤ sizeLine ∧ Q (.str d.shown) H
theorem call_reprD {X : Cx} (hg : X.A.guards = some []) (hu : X.A.units + 64 < cLine) (q : smOk X.K = true) : CallR X (.builtin "repr") (rRepr X.K) := by
  intro pins s σ H xs us Q I r h
  obtain ⟨a, d, rfl, hd, hs, hz, hl, k⟩ := h
  obtain ⟨u, rfl, ru⟩ := vals1 r
  cases ru
  obtain ⟨as, hr, hn⟩ := Dd.reads I q hd rfl
  refine repr_of_reads' hr hs (fun _ => hn) hg (by omega) (fun _ _ e => e) (fun h' u tk hk => ?_) hl
  exact ⟨.str d.shown, H, I.kept (t' := tk) hk, ⟨u, rfl⟩, k⟩

/-! ### a promise that is kept where no guard stands around -/
structure FnG (P : Program) (w : World) (K : PySem.W.Frag) (mg : Str → Option Value) (base : Heap) (CX : CXT) (k : Nat) (f : Addr) (fd : FuncData) (ps : List Str) (sp : Sp) : Prop where
  many : ∀ vs H Q E, sp vs H Q E → vs.length = ps.length
  goes : ∀ (A : Around) (outer : List Env) (s : Shared) (H : Hp) (args : Args) (us : List Value) (vs : List V) (Q : VK) (E : XK), A.guards = some [] → Room k A → Env0 P w K mg base A outer s H → BindsTo s fd args (ps.zip us) → Vals vs us → sp vs H Q E →
    codeAny (model P w) A (Code.call (.ref f) args) (CR CX outer P w H s Q E) s
section
variable {P : Program} {w : World} {K : PySem.W.Frag} {mg : Str → Option Value} {base : Heap} {CX : CXT} {x qual : Str} {params : Arguments} {body : List Stmt} {scope : Scope} {dvs : List V} {kws : List (Str × V)} {f : Addr} {fd : FuncData}
/-- a def whose body is read only where no guard stands -/
theorem FunD.okG {N ps : List Str} {k : Nat} {sp : Sp} (F : FunD K x qual params body scope dvs kws f fd) (S : FnScope N ps scope) (len : ∀ vs H Q E, sp vs H Q E → vs.length = ps.length)
    (hbody : ∀ (cdv : Value) (A : Around) (outer : List Env) (s : Shared) (H : Hp) (vs : List V) (Q : VK) (E : XK), A.guards = some [] → Room k (A.deeper (envOfC qual scope s.heap.objs.size f cdv)) → sp vs H Q E →
      ∃ t, PSs (cxOf CX P w K mg base N qual scope f cdv A outer s H E) body t ∧ t { nx := fun _ H' => Q .non H', rt := Q } (start N vs) H) : FnG P w K mg base CX (k + 1) f fd ps sp := by
  refine ⟨len, fun A outer s H args us vs Q E free room e0 bind rel want => ?_⟩
  obtain ⟨_, _, _, _, _, _, _, cdv, _, _, rfl, at_, rec_, _, _⟩ := F.ex
  have KX : K.In s.heap := e0.mod.kin.keeps fun b o e => (e0.bs b o e).1
  have inside : ∀ y : Str × Value, y ∈ ps.zip us → _ := fun y hy => S.par y.1 (List.of_mem_zip hy).1
  refine codeAny_call_function room.depth (KX _ _ at_) rfl S.co S.gen rfl (PySem.W.codeRec_of KX rec_) (bind _ _ _ _ (wpAny_newFunctionEnv_cells S.kind (fun y hy => ?_) fun env eq s1 C => ?_))
  · exact (inside y hy).imp id fun z => ⟨z, PySem.W.cellsFrom_some _ _ _ (.inl z)⟩
  subst eq
  refine ⟨(e0.mod.nolimit.keeps fun b o e => (e0.bs b o e).1).keeps C.toInCall.keep, codeAny_func ?_⟩
  obtain ⟨t, walk, q⟩ := hbody cdv A outer s H vs Q E free (room.deeper _) want
  refine wpAny_mono (walk.run [] s1 (start N vs) H _ (inv_start (CX := CX) (E := E) S room.hd e0 (len _ _ _ _ want) rel C) q) (fun fl s2 y => ?_) fun _ _ y => y
  match fl, y with
  | .next, ⟨_, H2, J, q⟩ => exact ⟨.non, H2, J.os, J.bare, J.base, J.hok, rfl, q⟩
  | .brk, ⟨_, _, _, q⟩ => exact q.elim
  | .cont, ⟨_, _, _, q⟩ => exact q.elim
  | .ret u, ⟨v, _, H2, J, r, q⟩ => exact ⟨v, H2, J.os, J.bare, J.base, J.hok, r, q⟩
end
/-- f(e, ..), no defaults, where no guard stands around -/
theorem pe_callG {X : Cx} {CX : CXT} {k : Nat} {f : Addr} {fd : FuncData} {ps : List Str} {sp : Sp} {E : XK} {x : Str} {p pos : Pos} {e : Expr} {es : List Expr} {t : TA} (F : FnG X.prog X.w X.K X.mg X.base CX k f fd ps sp) (hgu : X.A.guards = some []) (hr : Room k X.A) (hg : Gl X x)
    (hm : X.mg x = some (.ref f)) (hk : PySem.W.keepIn X.K (.ref f) = true) (hb : Binds X.K fd ps []) (hx : Passes CX X E) (ha : PA X (e :: es) t) (hdb : (x == ("__debug__" : Str)) = false := by decide)
    (he : starEach (e :: es) X.env = (false, eval e X.env) :: starEach es X.env := by rfl)
    (hpl : (backTo pos (starEach es X.env)).any (·.1) = false := by rfl) : PE X (.Call (.Name x p) (e :: es) [] pos) (tCall sp [] E t) := by
  constructor
  intro pins s σ H Q I h
  refine wpAny_Call_Name_kw (ld_glob I hg hm (PySem.W.callWith_K (h₀ := X.base) I.ok.mod.kin hk (thn (ha.run pos pins s σ H _ I h) fun us s1 y => ?_) he hpl) hdb)
  obtain ⟨vs, H1, I1, r, q⟩ := y
  have want : sp vs H1 Q E := (List.append_nil vs) ▸ (show sp (vs ++ []) H1 Q E from q)
  have bind := hb s1 us I1.kIn (by rw [List.append_nil, ← r.length]; exact F.many _ _ _ _ want)
  rw [List.append_nil] at bind
  refine ⟨I1.kIn, wpAny_call (codeAny_mono (F.goes X.A X.stack s1 H1 ⟨us, []⟩ us vs Q E hgu hr I1.env0 bind r want) fun r' s2 y => ?_)⟩
  match r', y with
  | .error e, y => exact hx pins σ H1 s1 e s2 I1 y
  | .ok (.ret u), y => exact I1.after y
end L2

/-! The end of a law whose def is promised where no guard stands (FnG), over facts read off the top's heap. -/
namespace L2
open PySem PySem.Spec PyProof.Rows
section
variable {P : Program} {w : World} {K : PySem.W.Frag} {mg mb : Str → Option Value} {CX : CXT} {k : Nat} {fa a : Addr} {fd : FuncData} {x : Str} {sp : Sp} {s₁ : Shared} {vs : List Value} {ns : List Int}
/-- the script's object, and nothing else, may be tracked at the entry -/
structure EntryHp (K : PySem.W.Frag) (s : Shared) (a : Addr) (vs : List Value) (ns : List Int) (H : Hp) : Prop where
  one : ∀ b, H b = none ∨ (b = a ∧ K.lookup a = none ∧ H b = some (.frz { cls := .type "list", data := .seq vs.toArray } (.lst (ns.map V.int))))
  seq : SqL K H a (ns.map V.int)
theorem EntryHp.made (KX : K.In s₁.heap) (ha : s₁.heap.get? a = some { cls := .type "list", data := .seq vs.toArray }) (hi : IntsAre vs ns) (hl : ns.length ≤ sizeLine) : ∃ H, EntryHp K s₁ a vs ns H := by
  cases e : K.lookup a with
  | some o =>
    obtain rfl := Option.some.inj (ha.symm.trans (KX a o e))
    exact ⟨fun _ => none, fun _ => .inl rfl, .inr ⟨_, vs.toArray, _, e, rfl, rfl, rfl, by rw [List.size_toArray, hi.length]; exact hl, by simpa using vals_ints hi⟩⟩
  | none =>
    refine ⟨upd (fun _ => none) a (.frz { cls := .type "list", data := .seq vs.toArray } (.lst (ns.map V.int))), fun b => ?_, .inl (.inr ⟨_, upd_same⟩)⟩
    by_cases hb : b = a
    · subst hb
      exact .inr ⟨rfl, e, upd_same⟩
    · exact .inl (upd_ne hb)
theorem law_callG (KX : K.In s₁.heap) (hns : s₁.heap.Ns mainGlobals mg) (hb : s₁.heap.Ns builtinsNs mb) (hbb : ∀ y : Str, y ≠ "__name__" → mb y = bootBuiltins y) (hlim : s₁.heap.NoLimit) (hg : s₁.gens = #[])
    (ha : s₁.heap.get? a = some { cls := .type "list", data := .seq vs.toArray })
    (hi : IntsAre vs ns) (hl : ns.length ≤ sizeLine) (hr : Room k callerA)
    (F : ∀ base : Heap, K.In base → base.Ns mainGlobals mg → FnG P w K mg base CX k fa fd [x] sp) (hbind : ∀ (s : Shared) (u : Value), BindsTo s fd ⟨[u], []⟩ [(x, u)])
    (hsp : ∀ H : Hp, SqL K H a (ns.map V.int) → sp [.ref a] H (fun v _ => v = .bl true) E0) (hCX : ∀ H e s', CX [] H s₁ E0 e s' → False) :
    codeAny (model P w) callerA (.call (.ref fa) ⟨[.ref a], []⟩)
      (fun r s' => r = .ok (.ret (.bool true)) ∧ OldK s₁.heap s'.heap ∧ s'.os = s₁.os ∧ AllBare s'.gens) s₁ := by
  obtain ⟨H, EH⟩ := EntryHp.made KX ha hi hl
  -- what is no list of the script's stands in the heap without what is tracked
  have dicts : ∀ {b m}, s₁.heap.Ns b m → (hidT s₁.heap H).Ns b m := fun {b m} ⟨o, es, ep, e, d, r⟩ => by
    refine ⟨o, es, ep, hidT_get e ?_, d, r⟩
    rcases EH.one b with z | ⟨z, _⟩
    · exact z
    · rw [z, ha] at e
      cases e
      cases d
  have KB : K.In (hidT s₁.heap H) := fun b o e => hidT_get (KX b o e) (by
    rcases EH.one b with z | ⟨z, n, _⟩
    · exact z
    · rw [z, n] at e
      cases e)
  have ok : HOk P w H s₁.heap := fun b u e => by
    rcases EH.one b with z | ⟨z, _, q⟩
    · rw [z] at e
      cases e
    · rw [q] at e
      cases e
      subst z
      exact ⟨ha, by rw [List.length_map]; exact hl, vs, _, vals_ints hi, ha⟩
  obtain ⟨mc, l1, l2⟩ := hlim
  have e0 : Env0 P w K mg (hidT s₁.heap H) callerA [] s₁ H :=
    ⟨rfl, ⟨KB, dicts hns, ⟨mb, dicts hb, hbb⟩, ⟨mc, dicts l1, l2⟩⟩, fun _ _ e => of_hidT e, Nat.le_of_eq (hidT_size _ _), trivial, fun b hb => (List.not_mem_nil hb).elim, ok, .of_eq hg⟩
  refine codeAny_mono ((F _ KB (dicts hns)).goes callerA [] s₁ H ⟨[.ref a], []⟩ [.ref a] [.ref a] _ E0 rfl hr e0 (hbind s₁ (.ref a)) (.cons rfl .nil) (hsp H EH.seq)) fun r s' h => ?_
  rcases r with e | (_ | _ | _ | u)
  · exact (hCX H e s' h).elim
  · exact False.elim h
  · exact False.elim h
  · exact False.elim h
  obtain ⟨v, H', os, bare, un, ok', rv, q⟩ := h
  obtain rfl : v = .bl true := q
  obtain rfl : u = Value.bool true := rv
  refine ⟨rfl, OldK.of_keep (fun b o e => ?_), os, bare⟩
  rcases EH.one b with z | ⟨_, _, z⟩
  · exact un.keep b o e z (fun y => List.not_mem_nil y) (fun y => List.not_mem_nil y)
  · have e1 := (ok b _ z).1
    rw [e] at e1
    cases e1
    exact (ok' b _ (un.frzs b _ _ z)).1
end
/-- a law: G gives the written part, the function object, the promise over every base -/
theorem walk_ofG {l : PySem.W.OpenLaw} {n k : Nat} {q : Program} {loose : List Str} {XP : (Str → Option Value) → Heap → Prop} {YP : World → Heap → Prop} {d : DefRec} {CX : CXT} {x : Str}
    (hn : l.most = some n) (hn2 : n ≤ sizeLine)
    (hdf : d.params.defaults = []) (hr : Room k callerA)
    (G : ∀ (w : World) (mg : Str → Option Value) (fa : Addr) (h : Heap), YP w h → h.Ns mainGlobals mg → mg d.name = some (.ref fa) →
      ∃ (K : PySem.W.Frag) (fd : FuncData) (sp : Sp), K.In h ∧
        (∀ (s : Shared) (u : Value), BindsTo s fd ⟨[u], []⟩ [(x, u)]) ∧
        (∀ (H : Hp) (a : Addr) (ns : List Int), ns.length ≤ n → SqL K H a (ns.map V.int) → sp [.ref a] H (fun v _ => v = .bl true) E0) ∧
        ∀ base : Heap, K.In base → base.Ns mainGlobals mg → FnG l.prog w K mg base CX k fa fd [x] sp)
    (hCX : ∀ (H : Hp) (s : Shared) (e : Value) (s' : Shared), CX [] H s E0 e s' → False) : PySem.W.WalkO q loose XP YP l.row.toRowW d [] (fun f vs => PySem.call f vs) := by
  refine Att.attach_call hn hdf fun w s₀ s₁ mg mb fa o pm cd doc a vs ns T Y _ _ _ hmg hobj hints hlen hg => ?_
  obtain ⟨K, fd, sp, KX, hb, hsp, hF⟩ := G w mg fa _ Y T.T.g hmg
  exact law_callG KX T.T.g T.T.b T.T.builtins T.T.nolimit hg hobj hints (Nat.le_trans hlen hn2) hr hF hb (fun H hS => hsp H a ns hlen hS) fun H e s' => hCX H s₁ e s'
end L2
namespace He
open PySem PySem.Spec PyProof.Rows L2
/-! ### the head's facts with a check of one's own beside them; the dict of the loaded modules is part of what is read -/
abbrev AlX : Type := Bool × AlD
def obsX (xf : PySem.W.Frag → Bool) (fa : List Fa) (fn : List DefD) (K : PySem.W.Frag) : AlX := (xf K, obsD fa fn K)
def obsXG (n : Nat) (xf : PySem.W.Frag → Bool) (fa : List Fa) (fn : List DefD) (g : Addr → Option Obj) : AlX := obsX xf fa fn (frG g (sysModules :: asD g n))
def SaysX (xf : PySem.W.Frag → Bool) (fa : List Fa) (fn : List DefD) (K : PySem.W.Frag) : Prop := xf K = true ∧ SaysD fa fn K
def hookX (n : Nat) (xf : PySem.W.Frag → Bool) (fa : List Fa) (fn : List DefD) : PySem.W.Hook where
  α := AlX
  obs := fun s => obsXG n xf fa fn s.heap.get?
  val := fun _ => (true, valD fn)
  says := fun _ h => ∃ K : PySem.W.Frag, K.In h ∧ SaysX xf fa fn K
  of := fun _ _ e => ⟨_, frG_in, congrArg Prod.fst e, congrArg Prod.snd e⟩
  keeps := fun _ _ _ y k => y.imp fun _ z => ⟨PySem.W.Frag.In.keeps z.1 k, z.2⟩
theorem obsXG_eq {n : Nat} {xf : PySem.W.Frag → Bool} {fa : List Fa} {fn : List DefD} {g : Addr → Option Obj} {s : Shared} (h : ∀ a, g a = s.heap.get? a) : obsXG n xf fa fn g = (hookX n xf fa fn).obs s := by
  obtain rfl : g = s.heap.get? := funext h
  rfl
end He

/-! Readings, one construct at a time (for a tactic that goes on as long as one of these fits). -/
namespace Rd
open PySem PySem.Spec PyProof.Rows L2
section
variable {σ : L2.St} {H : Hp} {i : Nat} {v x y : V} {ta tb te : TE} {t tr : TA} {r : R2} {Q : VK} {QA : List V → Hp → Prop} {QB : Bool → Hp → Prop} {D : Ends} {t1 t2 : TS} {tt uu : TT} {xs : List V} {K : PySem.W.Frag} {f : Str} {te : TE}
theorem var (h : σ[i]? = some (some v)) (q : Q v H) : tVar i σ H Q := ⟨v, h, q⟩
theorem c (q : Q v H) : tC v σ H Q := q
theorem op (h : ta σ H fun x H1 => tb σ H1 fun y H2 => r x y H2 Q) : tOp r ta tb σ H Q := h
theorem un {ru : V → Hp → VK → Prop} (h : ta σ H fun x H1 => ru x H1 Q) : tUn ru ta σ H Q := h
theorem cb {rc : List V → Hp → VK → Prop} (h : t σ H fun vs H1 => rc vs H1 Q) : tCB rc t σ H Q := h
theorem cons (h : ta σ H fun x H1 => tr σ H1 fun xs H2 => QA (x :: xs) H2) : tCons ta tr σ H QA := h
theorem nil (h : QA [] H) : tNil σ H QA := h
theorem ifx (h : tt σ H fun c H1 => if c = true then ta σ H1 Q else tb σ H1 Q) : tIf tt ta tb σ H Q := h
theorem test (h : te σ H fun x H1 => ∃ k, x = .bl k ∧ QB k H1) : tTest te σ H QB := h
theorem testB (h : te σ H fun x H1 => ∃ k, x = .bl k ∧ QB k H1) : tB te σ H QB := h
theorem isB {k : Bool} {P : Bool → Prop} (h : P k) : ∃ k', V.bl k = .bl k' ∧ P k' := ⟨k, rfl, h⟩
theorem i0 {g : Int → Int → V} {a b : Int} (q : Q (g a b) H) : rI0 g (.int a) (.int b) H Q := ⟨a, b, rfl, rfl, q⟩
theorem iC {C : Int → Int → Prop} {g : Int → Int → V} {a b : Int} (h : C a b) (q : Q (g a b) H) : rI C g (.int a) (.int b) H Q := ⟨a, b, rfl, rfl, h, q⟩
theorem neg {a : Int} (q : Q (.int (-a)) H) : rU (fun i => .int (-i)) (.int a) H Q := ⟨a, rfl, q⟩
theorem lst (h : t σ H fun xs H1 => xs.length ≤ sizeLine ∧ ∀ p, H1 p = none → Q (.ref p) (upd H1 p (.lst xs))) : tLst t σ H Q := h
theorem tup (h : t σ H fun xs H1 => xs.length ≤ sizeLine ∧ ∀ p, H1 p = none → Q (.ref p) (upd H1 p (.tup xs))) : tTup t σ H Q := h
theorem small {n : Nat} (h : n ≤ 100000) : n ≤ sizeLine := Nat.le_trans h (by decide)
theorem seq (h : t1 { D with nx := t2 D } σ H) : tSeq t1 t2 D σ H := h
theorem asg (h : te σ H fun x H1 => D.nx (σ.set i (some x)) H1) : tAsg te (gName i) D σ H := h
theorem asgG {g : TG} (h : te σ H fun x H1 => g x σ H1 D.nx) : tAsg te g D σ H := h
theorem gNm {P : L2.St → Hp → Prop} (h : P (σ.set i (some v)) H) : gName i v σ H P := h
theorem gSb {ts : TSet} {P : L2.St → Hp → Prop} (h : ta σ H fun o H1 => tb σ H1 fun i H2 => ts o i v H2 fun H3 => P σ H3) : gSub ta tb ts v σ H P := h
theorem setL {p : Addr} {k : Int} {j : Nat} {P : Hp → Prop} (h : H p = some (.lst xs)) (e : ixN xs.length k = some j) (q : P (upd H p (.lst (xs.set j v)))) : rSetL (.ref p) (.int k) v H P := ⟨p, xs, k, j, rfl, rfl, h, e, q⟩
theorem gC {t : TG} {u : TGs} {vs : List V} {P : L2.St → Hp → Prop} (h : t v σ H fun s1 H1 => u vs s1 H1 P) : gCons t u (v :: vs) σ H P := ⟨v, vs, rfl, h⟩
theorem gN {P : L2.St → Hp → Prop} (h : P σ H) : gNil [] σ H P := ⟨rfl, h⟩
theorem lcl {tl : TE} {g : TG} {vs : List Nat} (h : tl σ H fun x H1 => ∃ a, x = .ref a ∧ (∃ xs, SqL K H1 a xs) ∧ ∀ D, H1 D = none → ∃ W : Nat → Nat → Hp → Prop, (∃ m, W 0 m (upd H1 D (.lst []))) ∧ ∀ i m H, W i m H →
    ((Itl K a).stop i H ∧ Q (.ref D) H) ∨ ((Itl K a).go i H ∧ ∃ Nx : Hp → Prop, (∀ H', Nx H' → ∃ m', m' < m ∧ W (i + 1) m' H') ∧ ∀ x H', (Itl K a).yld i H x H' → g x (wipe σ vs) H' fun σ2 H2 => wipe σ2 vs = wipe σ vs ∧ tt σ2 H2 fun b H3 =>
      if b = true then te σ2 H3 fun y H4 => ∃ acc, H4 D = some (.lst acc) ∧ acc.length < sizeLine ∧ Nx (upd H4 D (.lst (acc ++ [y]))) else Nx H3)) : tLc (iList K tl) g tt te vs σ H Q := h
theorem ret (h : te σ H D.rt) : tRet te D σ H := h
theorem nxt (h : D.nx σ H) : tNext D σ H := h
theorem ifS (h : tt σ H fun b H1 => if b = true then t1 D σ H1 else t2 D σ H1) : tIfS tt t1 t2 D σ H := h
theorem notT (h : tt σ H fun b H1 => QB (!b) H1) : tNot tt σ H QB := h
theorem eqS (h : scal x y = true) (q : Q (.bl (decide (x = y))) H) : rEq x y H Q := ⟨h, q⟩
theorem neS (h : scal x y = true) (q : Q (.bl (!decide (x = y))) H) : rNe x y H Q := ⟨h, q⟩
theorem ixL {p : Addr} {a : Int} (h : SqL K H p xs) (e : atI xs a = some v) (q : Q v H) : rIxL K (.ref p) (.int a) H Q := ⟨p, xs, a, v, rfl, rfl, h, e, q⟩
theorem ifB {k : Bool} {A B : Prop} (h1 : k = true → A) (h2 : k = false → B) : if k = true then A else B := by
  cases k with
  | true => exact iteT (h1 rfl)
  | false => exact iteF (h2 rfl)
theorem call {sp : Sp} {E : XK} (h : t σ H fun vs H1 => sp (vs ++ []) H1 Q E) : tCall sp [] E t σ H Q := h
end
end Rd

/-! A try of several clauses `except C as n`: each clause is a link of its own, so that they chain to any length. -/
namespace L2
open PySem PySem.Spec PyProof.Rows
section
variable {X : Cx} {pins : List (Addr × Obj)} {σ : St} {H : Hp} {cls : Value} {d : Option Addr} {a : Addr} {B : Heap} {s₀ s : Shared}
/-- the exception at a stands caught in s; s₀ is the state that was known when it was thrown -/
structure Caught (X : Cx) (pins : List (Addr × Obj)) (σ : St) (H : Hp) (cls : Value) (d : Option Addr) (a : Addr) (B : Heap) (s₀ s : Shared) : Prop where
  inv : Inv X pins σ H s₀
  own : ∀ b o, s₀.heap.get? b = some o → b ∉ frs X.stack → B.get? b = some o
  up : s₀.heap.UpToSlots s.heap
  fly : HandSPX.FlyingZ B X.stack a (Zc cls d) s.heap
  new : H a = none
  os : s.os = s₀.os
  bare : AllBare s.gens
theorem Caught.now (c : Caught X pins σ H cls d a B s₀ s) : Inv X pins σ H s := c.inv.landed c.own c.fly.1 c.up c.os c.bare
theorem Caught.on (c : Caught X pins σ H cls d a B s₀ s) {h : Heap} (f : HandSPX.FlyingZ B X.stack a (Zc cls d) h) (u : s.heap.UpToSlots h) : Caught X pins σ H cls d a B s₀ { s with heap := h } :=
  { c with up := c.up.trans u, fly := f }
/-- what a suite of such an exception begins with -/
theorem Caught.inside (c : Caught X pins σ H cls d a B s₀ s) (hf : X.env.frame = some X.env.locals) (hs : X.stack = X.env :: X.outer) :
    ∃ oe, Zc cls d oe ∧ (∃ vs, oe.data = .fields vs) ∧ s.heap.get? a = some oe ∧ Inv (X.suite a ((a, oe) :: (X.pn ++ pins))) [] σ H s := by
  obtain ⟨oe, vs, ea, ez, ed⟩ := c.fly.there
  have far : a ∉ frs (X.env :: X.outer) := fun m => by
    obtain ⟨_, o, e, n⟩ := (hs ▸ c.fly.2.2.1 : s.heap.FunFrames B (X.env :: X.outer)).mem m
    rw [ea] at e
    exact n vs (Option.some.inj e ▸ ed)
  refine ⟨oe, ez, ⟨vs, ed⟩, ea, c.now.suite ea ed c.new (fun e => far ?_) fun m => far ?_⟩
  · exact List.mem_filterMap.mpr ⟨X.env, List.mem_cons_self, e ▸ hf⟩
  · obtain ⟨y, hy, z⟩ := List.mem_filterMap.mp m
    exact List.mem_filterMap.mpr ⟨y, List.mem_cons_of_mem _ hy, z⟩
end
section
variable {X : Cx} {hds : List ExceptHandler} {x n : Str} {c : Value} {i : Nat} {body suite : List Stmt} {b₀ : Stmt} {h₀ : ExceptHandler} {np pos pos' : Pos} {tb : WX → TS} {ts : Addr → Value → Option Addr → TS} {Wout : WX} {W : Ends → WX}
/-- the clauses answer every caught exception of which W is true -/
def Clauses (X : Cx) (hds : List ExceptHandler) (W : Ends → WX) : Prop := ∀ (pins : List (Addr × Obj)) (D : Ends) (σ : St) (H : Hp) (cls : Value) (d : Option Addr) (a : Addr) (B : Heap) (s₀ s : Shared),
  Caught X pins σ H cls d a B s₀ s → W D cls d σ H → wpAny (model X.prog X.w) X.A (handleBy (.ref a) X.env hds) (SP X pins D) X.xe s
/-- no clause is left: it goes on -/
theorem clauses_nil (hf : X.env.frame = some X.env.locals) (tk : Takes X Wout) : Clauses X [] fun _ => Wout := by
  intro pins D σ H cls d a B s₀ s c w
  obtain ⟨_, _, _, oe, vs, t, _, _, ea, _, ed, e1, _⟩ := id c.fly
  have out : wpAny (model X.prog X.w) X.A (setFlight (.ref a) X.env.frame) (fun _ s' => wpAny (model X.prog X.w) X.A (throw (.ref a) : Sem Flow) (SP X pins D) X.xe s') X.xe s := hf ▸
    HandSPX.setFlight_upZ c.fly fun h' hh u => wpAny_throw (tk _ _ ⟨a, B, s₀, pins, σ, H, cls, d, rfl, c.inv, c.own, c.up.trans u, .inr (.inr hh), c.new, c.os, c.bare, w⟩)
  refine wpAny_handleBy_nil ?_
  show wpAny _ _ (passOn _ _ _) _ _ _
  unfold PySem.passOn
  refine wpAny_bind (wpAny_field ea ed e1 ?_)
  rw [if_neg (show ¬ ((Value.ref t == Value.none) = true) by simp)]
  first
    | exact wpAny_bind out
    | exact wpAny_bind (wpAny_pure (wpAny_bind out))
/-- a clause `except x as n: suite`, n in slot i, before further ones -/
theorem clauses_as (hs : X.stack = X.env :: X.outer) (hf : X.env.frame = some X.env.locals) (hN : X.N.Nodup) (hi : X.N[i]? = some n) (hln : X.env.kindOf n = some .local) (hc : Names X x c)
    (hsu : ∀ (a : Addr) (oe : Obj) (cls : Value) (d : Option Addr) (pn : List (Addr × Obj)), Zc cls d oe → (∃ vs, oe.data = .fields vs) → PSs (X.suite a ((a, oe) :: pn)) (b₀ :: suite) (ts a cls d)) (r : Clauses X hds W) :
    Clauses X (.ExceptHandler (some (.Name x np)) (some n) (b₀ :: suite) pos' :: hds) fun D => wAs X.K c i ts (W D) D := by
  intro pins D σ H cls d a B s₀ s k w
  obtain ⟨b, hb, yes, no⟩ := w
  obtain ⟨oe, ez, ed, ea, inn⟩ := k.inside hf hs
  refine wpAny_handleBy_cons (codeAny_handlers_test ?_) fun q => nomatch q
  have asks : ∀ {Q : Value → Shared → Prop} {E : Value → Shared → Prop}, Q c s → wpAny (model X.prog X.w) (X.A.mark (some (.ref a))) (eval (.Name x np) X.env) Q E s := fun q =>
    match hc with
    | ⟨g, db, .inl m⟩ => ld_glob (X := X.suite a ((a, oe) :: (X.pn ++ pins))) inn g m q db
    | ⟨g, db, .inr ⟨m, v, nn⟩⟩ => ld_blt (X := X.suite a ((a, oe) :: (X.pn ++ pins))) inn g m v q nn db
  refine asks ((PySem.W.exm_one (M := model X.prog X.w) k.now.kIn (fun A Q E s' l q => wpAny_typeOf_ref (l _ _ ea) (by rw [ez.1]; exact q)) hb).here ?_)
  cases b with
  | false => exact r pins D σ H cls d a B s₀ s k (no rfl)
  | true =>
    refine codeAny_handlers_suite_as (HandSPX.lands_againZ k.fly fun h' f' u' => ?_)
    have k' := k.on f' u'
    obtain ⟨oe', ez', ed', ea', inn'⟩ := k'.inside hf hs
    refine store_ok (X := X.suite a ((a, oe') :: (X.pn ++ pins))) (v := .ref a) inn' hN hi (.inl hln) rfl (fun s1 J => ?_) (.inr hln)
    refine wpAny_mono ((hsu a oe' cls d (X.pn ++ pins) ez' ed').run [] s1 _ H _ J (yes rfl a k.new)) (fun fl s2 q => ?_) fun _ _ z => z.elim
    rcases fl with _ | _ | _ | v
    · obtain ⟨σ2, H2, J2, z⟩ := q
      exact gone_ok (J2.unsuite k.inv.ok) hN hi hln fun s3 J3 => ⟨_, _, J3, z⟩
    · obtain ⟨σ2, H2, J2, z⟩ := q
      exact gone_ok (J2.unsuite k.inv.ok) hN hi hln fun s3 J3 => ⟨_, _, J3, z⟩
    · obtain ⟨σ2, H2, J2, z⟩ := q
      exact gone_ok (J2.unsuite k.inv.ok) hN hi hln fun s3 J3 => ⟨_, _, J3, z⟩
    · obtain ⟨y, σ2, H2, J2, ry, z⟩ := q
      exact gone_ok (J2.unsuite k.inv.ok) hN hi hln fun s3 J3 => ⟨_, _, _, J3, ry, z⟩
/-- try: body, then the clauses -/
theorem ps_try_cl (hs : X.stack = X.env :: X.outer) (hf : X.env.frame = some X.env.locals)
    (hb : ∀ (W : WX) (pn : List (Addr × Obj)) (xe : Value → Shared → Prop), Takes (X.tr pn xe) W →
      PassesOwn (model X.prog X.w) X.A X.env xe → PSs (X.tr pn xe) body (tb W))
    (hc : Clauses X (h₀ :: hds) W) : PS X (.Try body (h₀ :: hds) [] [] pos) (fun D σ H => tb (W D) D σ H) := by
  refine ⟨fun pins s σ H D I h => wpAny_Try_except ?_⟩
  refine wpAny_mono ((hb (W D) (X.pn ++ pins) (fun e s₁ => wpAny (model X.prog X.w) X.A (noteFrame e X.env) (fun _ s₂ => wpAny (model X.prog X.w) X.A (setFlight e none) (fun _ s₃ =>
    wpAny (model X.prog X.w) X.A (handleBy e X.env (h₀ :: hds)) (SP X pins D) X.xe s₃) X.xe s₂) X.xe s₁) (fun u s' z => ?_) PassesOwn.looking).run [] s σ H D (I.toTry _) h) (fun fl s1 q => ?_) fun _ _ z => z
  · obtain ⟨a, B, sI, pn', σ', H', cls, d, rfl, J, own, up, sky, na, os, ag, w⟩ := z
    refine Sky.land Zc.steady (I.ok.frames.trans (congrArg some hs)) hf (hs ▸ sky) fun h' f' u' => ?_
    exact hc pins D σ' H' cls d a B sI _ ⟨J.ofTry I.ok, own, up.trans u', hs ▸ f', na, os, ag⟩ w
  · rcases fl with _ | _ | _ | v
    · obtain ⟨σ2, H2, J, z⟩ := q
      exact wpAny_execs_nil ⟨σ2, H2, J.ofTry I.ok, z⟩
    · obtain ⟨σ2, H2, J, z⟩ := q
      exact ⟨σ2, H2, J.ofTry I.ok, z⟩
    · obtain ⟨σ2, H2, J, z⟩ := q
      exact ⟨σ2, H2, J.ofTry I.ok, z⟩
    · obtain ⟨y, σ2, H2, J, ry, z⟩ := q
      exact ⟨y, σ2, H2, J.ofTry I.ok, ry, z⟩
end
end L2

/-! != of an instance that has == alone (both answers). -/
namespace PySem.W
open PySem PySem.Calls PyProof.Rows Builtin
section
variable {prog : Program} {w : World} {A : Around} {E : Value → Shared → Prop} {s : Shared} {K : Frag} {x C L f : Addr} {h₀ : Heap} {m : Str → Option Value} {ox : Obj} {od : Option Obj} {b tb : Value}
def NotBack (Q : Value → Shared → Prop) (v : Value) (s' : Shared) : Prop := ∃ k, v = .bool k ∧ Q (.bool (!k)) s'
theorem bound_B {M : Model} {name : Str} {id : String} {args : List Value} {Q : Option Value → Shared → Prop} (X : K.In s.heap) (I : InstAt s.heap x ox C od) (hs : findIn K (.ref C) name = some (some (.builtin id)))
    (hb : ∀ self, bindSpecial (.builtin id) self = pure (.builtin id, [self])) (h : wpAny M A (call (.builtin id) (.ref x :: args)) (fun v => Q (some v)) E s) : wpAny M A (callSpecialIfBound? (.ref x) name args) Q E s := by
  simp only [callSpecialIfBound?, bindSpecialIfBound?]
  refine wpAny_holding (wpAny_bind (wpAny_bind (wpAny_bind (I.type.here ((looks_findIn X hs).here ?_)))))
  refine wpAny_bind (wpAny_askSetting (wpAny_ite ?_))
  have fin : wpAny M A (call (.builtin id) ([.ref x] ++ args) >>= fun v => pure (some v)) Q E s := wpAny_bind (wpAny_mono h (fun v s' h' => wpAny_pure h') fun _ _ h' => h')
  split
  · exact wpAny_bind ((Looks.of_pure (hb _)).here (wpAny_pure (by exact fin)))
  · exact wpAny_tryCatch (wpAny_bind ((Looks.of_pure (hb _)).here (wpAny_pure (by exact fin))))
theorem own_ne {Q : Value → Shared → Prop} (hu0 : A.units < cLine) (hu : A.in1.units < cLine) (F : Fr h₀ L s.heap m) (X₀ : K.In h₀) (I : InstAt s.heap x ox C od) (hb : Looks (model prog w) s.heap (typeOf b) tb) (hn : notFirst K C tb = true)
    (hs : findIn K (.ref C) "__eq__" = some (some (.ref f))) (hf : isFn K (.ref f) = true) (hne : findIn K (.ref C) "__ne__" = some (some (.builtin "object.__ne__"))) (hm : mroIn K C (.type "object") = some true)
    (h : wpAny (model prog w) A.in1 (call (.ref f) [.ref x, b]) (NotBack Q) E s) : wpAny (model prog w) A (richCompare .NotEq (.ref x) b) Q E s := by
  have X := X₀.keeps F.keep
  have one : wpAny (model prog w) A (tryCompare (.ref x) (cmpInfo .NotEq).2.1 b) (fun r s' => ∃ v, r = some v ∧ Q v s') E s := by
    unfold tryCompare
    refine wpAny_bind (bound_B X I hne PySem.F.cmp_object.ne.bind ?_)
    refine wpAny_call (codeAny_call_builtin PySem.F.cmp_object.ne.plain PySem.F.cmpEntry_ne (check_slot (i := "object.__ne__") (owner := "object") (n := "__ne__") PySem.F.cmpKind_ne PySem.F.cmpSplit_ne (I.type.andThen (looks_mroIn X hm)) (PySem.F.cmpArgs_ne _ _) ?_))
    unfold Builtin.«object.__ne__»
    refine wpAny_bind (m := slotArgs "__ne__" 1 _) (wpAny_pure ?_)
    refine wpAny_bind (m := cRoomFor _ _) (wpAny_cRoomFor hu ?_)
    refine wpAny_bind (m := callSpecialIfBound? (.ref x) (Str.ofString "__eq__") _) (ifBound_K X I hs hf (wpAny_mono h (fun r s' hq => ?_) fun _ _ y => y))
    obtain ⟨k, rfl, hq⟩ := hq
    refine wpAny_bind (m := truthy (.bool k)) (wpAny_truthy_bool ?_)
    exact wpAny_pure (wpAny_pure ⟨_, rfl, hq⟩)
  unfold richCompare
  simp only [oneThing_ref]
  refine wpAny_holding (wpAny_bind (wpAny_cRoomFor hu0 ?_))
  refine wpAny_bind (I.type.here (wpAny_bind (hb.here ?_)))
  split
  · rename_i q
    have e : subIn K tb (.ref C) = some false := by
      rcases Bool.or_eq_true_iff.mp hn with e | e
      · rw [beq_iff_eq.mp e] at q; simp at q
      · exact beq_iff_eq.mp e
    refine wpAny_bind ((looks_subIn X e).here ?_)
    simp only [Bool.false_eq_true, if_false]
    refine wpAny_bind (wpAny_mono one (fun r s' z => ?_) fun _ _ e => e)
    obtain ⟨v, rfl, hq⟩ := z
    exact wpAny_pure hq
  · refine wpAny_bind (wpAny_pure ?_)
    simp only [Bool.false_eq_true, if_false]
    refine wpAny_bind (wpAny_mono one (fun r s' z => ?_) fun _ _ e => e)
    obtain ⟨v, rfl, hq⟩ := z
    exact wpAny_pure hq
end
end PySem.W

/-! Own methods of instances that a built-in calls: repr(x), str(x), x == y and x != y with both answers; {x!r} of data. -/
namespace L2
open PySem PySem.Spec PyProof.Rows
section
variable {X : Cx} {CX : CXT} {n : Nat} {C f : Addr} {fd : FuncData} {ps : List Str} {sp : Sp} {E : XK}
theorem FnOk.g {P : Program} {w : World} {K : PySem.W.Frag} {mg : Str → Option Value} {base : Heap} (F : FnOk P w K mg base CX n f fd ps sp) : FnG P w K mg base CX n f fd ps sp :=
  ⟨F.len, fun A outer s H args us vs Q E _ => F.run A outer s H args us vs Q E⟩
theorem FnG.mono {P : Program} {w : World} {K : PySem.W.Frag} {mg : Str → Option Value} {base : Heap} {j k : Nat} (F : FnG P w K mg base CX j f fd ps sp) (h : j ≤ k) : FnG P w K mg base CX k f fd ps sp :=
  ⟨F.many, fun A outer s H args us vs Q E g r => F.goes A outer s H args us vs Q E g (r.mono h)⟩
/-- a def at f called below the running body, with values that are there -/
theorem call_at (F : FnG X.prog X.w X.K X.mg X.base CX n f fd ps sp) (hb : Binds X.K fd ps []) (hx : Passes CX X E) {A : Around} (sb : Sub X n A) (hgu : A.guards = some []) {pins : List (Addr × Obj)} {s : Shared} {σ : St} {H : Hp} {vs : List V} {us : List Value} {Q : VK}
    (I : Inv X pins σ H s) (r : Vals vs us) (h : sp vs H Q E) : wpAny (model X.prog X.w) A (call (.ref f) us) (EP X pins σ Q) X.xe s := by
  have e0 : Env0 X.prog X.w X.K X.mg X.base A X.stack s H := by
    have e := I.env0
    exact ⟨by rw [sb.fr]; exact e.frames, e.mod, e.bs, e.bsz, e.funs, e.frf, e.hok, e.bare⟩
  have hl := F.many _ _ _ _ h
  have bind := hb s us I.kIn (by rw [List.append_nil, ← r.length]; exact hl)
  rw [List.append_nil] at bind
  refine wpAny_call (codeAny_mono (F.goes A X.stack s H ⟨us, []⟩ us vs Q E hgu sb.room e0 bind r h) fun r' s2 y => ?_)
  match r', y with
  | .error e, y => exact hx pins σ H s e s2 I y
  | .ok (.ret u), y => exact I.after y
/-- an own method of the class, by its name -/
structure OwnM (K : PySem.W.Frag) (C : Addr) (x : Str) (f : Addr) : Prop where
  find : PySem.W.findIn K (.ref C) x = some (some (.ref f))
  fn : PySem.W.isFn K (.ref f) = true
/-- what an own __repr__ or __str__ is called for -/
def rShow (C : Addr) (sp : Sp) (E : XK) : List V → Hp → VK → Prop := fun xs H Q => ∃ a dx fs, xs = [.ref a] ∧ H a = some (.ins C dx fs) ∧ sp [.ref a] H (fun v H' => ∃ y, v = .str y ∧ Q (.str y) H') E
theorem call_reprI (F : FnG X.prog X.w X.K X.mg X.base CX n f fd ps sp) (m : OwnM X.K C "__repr__" f) (hb : Binds X.K fd ps []) (hx : Passes CX X E) (hgu : X.A.guards = some []) (hr : Room (n + 1) X.A) :
    CallR X (.builtin "repr") (rShow C sp E) := by
  intro pins s σ H xs us Q I r h
  obtain ⟨a, dx, fs, rfl, ha, h⟩ := h
  obtain ⟨u, rfl, ru⟩ := vals1 r
  cases ru
  obtain ⟨mA, J, _⟩ := ins_get I.hok ha
  obtain ⟨od, J, _⟩ := J.look
  obtain ⟨m', hF⟩ := I.fr
  have sb : Sub X n X.A.in1 := Sub.in1 ⟨hr, rfl⟩
  refine PySem.W.repr_K sb.room.units0 hF I.ok.mod.kin J m.find m.fn (wpAny_mono (call_at (vs := [V.ref a]) F hb hx sb hgu I (.cons rfl .nil) h) (fun v s' z => ?_) fun _ _ y => y)
  obtain ⟨v, H', I', rv, y, rfl, q⟩ := z
  obtain ⟨t, rfl⟩ := rv
  exact ⟨.str y, H', I', ⟨t, rfl⟩, q⟩
theorem call_strI (F : FnG X.prog X.w X.K X.mg X.base CX n f fd ps sp) (m : OwnM X.K C "__str__" f) (hb : Binds X.K fd ps []) (hx : Passes CX X E) (hgu : X.A.guards = some []) (hr : Room (n + 2) X.A) :
    CallR X (.type "str") (rShow C sp E) := by
  intro pins s σ H xs us Q I r h
  obtain ⟨a, dx, fs, rfl, ha, h⟩ := h
  obtain ⟨u, rfl, ru⟩ := vals1 r
  cases ru
  obtain ⟨mA, J, _⟩ := ins_get I.hok ha
  obtain ⟨od, J, _⟩ := J.look
  have sb1 : Sub X (n + 1) X.A.in1 := Sub.in1 ⟨hr, rfl⟩
  have sb : Sub X n X.A.in1.in1 := Sub.in1 sb1
  refine PySem.W.kso_call sb.room.units0 I.kIn J m.find m.fn (wpAny_mono (call_at (vs := [V.ref a]) F hb hx sb hgu I (.cons rfl .nil) h) (fun v s' z => ?_) fun _ _ y => y)
  obtain ⟨v, H', I', rv, y, rfl, q⟩ := z
  obtain ⟨t, rfl⟩ := rv
  exact ⟨.str y, H', I', ⟨t, rfl⟩, q⟩
/-- x == y, x != y by an own == -/
def rOwn (K : PySem.W.Frag) (C : Addr) (sp : Sp) (E : XK) (g : Bool → Bool) : R2 := fun x y H Q => ∃ a dx fs t, x = .ref a ∧ H a = some (.ins C dx fs) ∧ TyX K H y t ∧ PySem.W.notFirst K C t = true ∧ sp [x, y] H (fun v H' => ∃ k, v = .bl k ∧ Q (.bl (g k)) H') E
theorem op_eqI (F : FnG X.prog X.w X.K X.mg X.base CX n f fd ps sp) (m : OwnM X.K C "__eq__" f) (hb : Binds X.K fd ps []) (hx : Passes CX X E) (hgu : X.A.guards = some []) (hr : Room n X.A) :
    OpR X (compareOp .Eq) (rOwn X.K C sp E id) := by
  intro pins s σ H x y v u Q I rx ry hq
  obtain ⟨a, dx, fs, t, rfl, ha, ty, nf, h⟩ := hq
  obtain ⟨P, kit, hp, _⟩ := kit_of I ry ty
  obtain ⟨mA, J, _⟩ := ins_get I.hok ha
  obtain ⟨od, J, _⟩ := J.look
  obtain ⟨m', hF⟩ := I.fr
  have sb : Sub X n X.A := ⟨hr, rfl⟩
  have rx' := rx
  cases rx
  show wpAny (model X.prog X.w) X.A (richCompare .Eq (.ref a) u) (EP X pins σ Q) X.xe s
  refine PySem.W.cmp_K (op := .Eq) (tb := t) sb.room.units0 hF I.ok.mod.kin J (kit.ty _ _ I.kIn hp) nf m.find m.fn (wpAny_mono (call_at (vs := [V.ref a, y]) F hb hx sb hgu I (.cons rfl (.cons ry .nil)) h) (fun v s' z => ?_) fun _ _ y => y)
  obtain ⟨v, H', I', rv, k, rfl, q⟩ := z
  cases rv
  exact ⟨.bl k, H', I', rfl, q⟩
theorem op_neI (F : FnG X.prog X.w X.K X.mg X.base CX n f fd ps sp) (m : OwnM X.K C "__eq__" f) (hne : PySem.W.findIn X.K (.ref C) "__ne__" = some (some (.builtin "object.__ne__"))) (hm : PySem.W.mroIn X.K C (.type "object") = some true)
    (hb : Binds X.K fd ps []) (hx : Passes CX X E) (hgu : X.A.guards = some []) (hr : Room (n + 1) X.A) : OpR X (compareOp .NotEq) (rOwn X.K C sp E not) := by
  intro pins s σ H x y v u Q I rx ry hq
  obtain ⟨a, dx, fs, t, rfl, ha, ty, nf, h⟩ := hq
  obtain ⟨P, kit, hp, _⟩ := kit_of I ry ty
  obtain ⟨mA, J, _⟩ := ins_get I.hok ha
  obtain ⟨od, J, _⟩ := J.look
  obtain ⟨m', hF⟩ := I.fr
  have sb0 : Sub X (n + 1) X.A := ⟨hr, rfl⟩
  have sb : Sub X n X.A.in1 := Sub.in1 sb0
  cases rx
  show wpAny (model X.prog X.w) X.A (richCompare .NotEq (.ref a) u) (EP X pins σ Q) X.xe s
  refine PySem.W.own_ne (tb := t) sb0.room.units0 sb.room.units0 hF I.ok.mod.kin J (kit.ty _ _ I.kIn hp) nf m.find m.fn hne hm (wpAny_mono (call_at (vs := [V.ref a, y]) F hb hx sb hgu I (.cons rfl (.cons ry .nil)) h) (fun v s' z => ?_) fun _ _ y => y)
  obtain ⟨v, H', I', rv, k, rfl, q⟩ := z
  cases rv
  exact ⟨k, rfl, .bl (!k), H', I', rfl, q⟩
/-- {x!r} of a list, tuple or dict of data -/
def tFmtRD (K : PySem.W.Frag) (te : TE) : TE := fun σ H Q => te σ H fun x H1 => ∃ a d, x = .ref a ∧ Dd K H1 (.ref a) d ∧ d.showable = true ∧ d.depth ≤ 20 ∧ d.shown.length ≤ sizeLine ∧ Q (.str d.shown) H1
theorem pe_fmtRD {e : Expr} {te : TE} {pos : Pos} (hgu : X.A.guards = some []) (hu : X.A.units + 64 < cLine) (q : smOk X.K = true) (he : PE X e te) : PE X (.FormattedValue e 114 none pos) (tFmtRD X.K te) := by
  refine ⟨fun pins s σ H Q I h => ?_⟩
  refine wpAny_FormattedValue_repr (thn (he.run pins s σ H _ I h) fun v s1 hv => ?_)
  obtain ⟨x, H1, I1, r1, a, d, rfl, hd, hs, hz, hl, k⟩ := hv
  cases r1
  obtain ⟨as, hr, hn⟩ := Dd.reads I1 q hd rfl
  refine pyReprObj_of_reads hr hs (fun _ => hn) hgu (by omega) (fun _ _ e => e) (fun h' u tk hk => ?_) hl
  exact wpAny_formatField_str ⟨.str d.shown, H1, I1.kept (t' := tk) hk, ⟨u, rfl⟩, k⟩ ⟨.str d.shown, H1, (I1.kept (t' := tk) hk).tok _, ⟨_, rfl⟩, k⟩ hl
end
end L2

/-! The head's facts with defs that are found by a path of one's own (a property's getter). -/
namespace He
open PySem PySem.Spec PyProof.Rows L2
structure DefP where
  path : PySem.W.Frag → Addr
  name : Str
  qual : Str
  params : Arguments
  body : List Stmt
  scope : Scope
def fnAt (K : PySem.W.Frag) (a : Addr) : FnW := match K.lookup a with
  | some ⟨_, _, .func z, _⟩ => some (z.name, z.qualname, z.params, z.body, z.scope, z.globals, z.closure, z.builtins)
  | _ => none
def DefP.val (d : DefP) : FnW := some (d.name, d.qual, d.params, .stmts d.body, d.scope, mainGlobals, [], builtinsNs)
def DefP.ok (K : PySem.W.Frag) (d : DefP) : Bool := PySem.W.keepIn K (.ref (d.path K)) && (match K.lookup (d.path K) with
  | some ⟨_, _, .func z, _⟩ => PySem.W.codeIn K z.code d.qual && (dflB K z.defaults [] && kwdB K z.kwdefaults [])
  | _ => false)
theorem DefP.funD {K : PySem.W.Frag} {d : DefP} (e : fnAt K (d.path K) = d.val) (c : d.ok K = true) : ∃ fd, FunD K d.name d.qual d.params d.body d.scope [] [] (d.path K) fd := by
  obtain ⟨kp, c2⟩ := ba c
  unfold fnAt at e
  cases q : K.lookup (d.path K) with
  | none =>
    rw [q] at c2
    cases c2
  | some o =>
    obtain ⟨oc, od, dt, osl⟩ := o
    rw [q] at c2 e
    cases dt with
    | func z =>
      obtain ⟨a1, a2, a3, a4, a5, a6, a7, a8, a9, a10, a11, a12, a13, a14, a15⟩ := z
      have e2 : (some (a1, a2, a3, a4, a5, a6, a7, a15) : FnW) = some (d.name, d.qual, d.params, .stmts d.body, d.scope, mainGlobals, [], builtinsNs) := e
      simp only [Option.some.injEq, Prod.mk.injEq] at e2
      obtain ⟨g1, g2, g3, g4, g5, g6, g7, g8⟩ := e2
      subst g1 g2 g3 g4 g5 g6 g7 g8
      obtain ⟨k1, k2⟩ := ba (show (PySem.W.codeIn K a13 d.qual && (dflB K a8 [] && kwdB K a9 [])) = true from c2)
      obtain ⟨k3, k4⟩ := ba k2
      exact ⟨_, ⟨oc, od, a8, a9, a10, a11, a12, a13, a14, osl, rfl, q, k1, dflB_ok k3, kwdB_ok k4⟩, kp⟩
    | _ => cases c2
abbrev AlY : Type := Bool × AlD × List FnW
def obsY (xf : PySem.W.Frag → Bool) (fa : List Fa) (fn : List DefD) (fp : List DefP) (K : PySem.W.Frag) : AlY := (xf K && fp.all fun d => d.ok K, obsD fa fn K, fp.map fun d => fnAt K (d.path K))
def obsYG (n : Nat) (xf : PySem.W.Frag → Bool) (fa : List Fa) (fn : List DefD) (fp : List DefP) (g : Addr → Option Obj) : AlY := obsY xf fa fn fp (frG g (sysModules :: asD g n))
structure SaysY (xf : PySem.W.Frag → Bool) (fa : List Fa) (fn : List DefD) (fp : List DefP) (K : PySem.W.Frag) : Prop where
  x : xf K = true
  p : ∀ d ∈ fp, d.ok K = true
  d : SaysD fa fn K
  v : fp.map (fun d => fnAt K (d.path K)) = fp.map DefP.val
theorem SaysY.def_ {xf : PySem.W.Frag → Bool} {fa : List Fa} {fn : List DefD} {fp : List DefP} {K : PySem.W.Frag} (c : SaysY xf fa fn fp K) (i : Nat) {d : DefP} (h : fp[i]? = some d := by rfl) : ∃ fd, FunD K d.name d.qual d.params d.body d.scope [] [] (d.path K) fd := by
  have e2 : (fp.map fun d => fnAt K (d.path K))[i]? = (fp.map DefP.val)[i]? := by rw [c.v]
  rw [List.getElem?_map, List.getElem?_map, h] at e2
  exact DefP.funD (Option.some.inj e2) (c.p d (List.mem_of_getElem? h))
def hookY (n : Nat) (xf : PySem.W.Frag → Bool) (fa : List Fa) (fn : List DefD) (fp : List DefP) : PySem.W.Hook where
  α := AlY
  obs := fun s => obsYG n xf fa fn fp s.heap.get?
  val := fun _ => (true, valD fn, fp.map DefP.val)
  says := fun _ h => ∃ K : PySem.W.Frag, K.In h ∧ SaysY xf fa fn fp K
  of := fun _ _ e => by
    have e1 := ba (congrArg (fun z : AlY => z.1) e)
    exact ⟨_, frG_in, e1.1, fun d hd => List.all_eq_true.mp e1.2 d hd, congrArg (fun z : AlY => z.2.1) e, congrArg (fun z : AlY => z.2.2) e⟩
  keeps := fun _ _ _ y k => y.imp fun _ z => ⟨PySem.W.Frag.In.keeps z.1 k, z.2⟩
theorem obsYG_eq {n : Nat} {xf : PySem.W.Frag → Bool} {fa : List Fa} {fn : List DefD} {fp : List DefP} {g : Addr → Option Obj} {s : Shared} (h : ∀ a, g a = s.heap.get? a) : obsYG n xf fa fn fp g = (hookY n xf fa fn fp).obs s := by
  obtain rfl : g = s.heap.get? := funext h
  rfl
end He

/-! C.m(e, ..) where m is a plain def found on the class C; a written dict with text keys. -/
namespace L2
open PySem PySem.Spec PyProof.Rows
structure CFn (K : PySem.W.Frag) (C : Addr) (m : Str) (g : Addr) : Prop where
  rd : ClX.CRead K C (.type "type")
  at_ : PySem.W.findCls K (.ref C) (.type "type") m = some (.val (.ref g))
def tCFn (C : Addr) (sp : Sp) (E : XK) (ta : TE) (t : TA) : TE := fun σ H Q => ta σ H fun x H1 => x = .ref C ∧ t σ H1 fun vs H2 => sp vs H2 Q E
theorem Rd.cfn {C : Addr} {sp : Sp} {E : XK} {t : TA} {σ : St} {H : Hp} {Q : VK} (h : t σ H fun vs H2 => sp vs H2 Q E) : tCFn C sp E (tC (.ref C)) t σ H Q := ⟨rfl, h⟩
section
variable {X : Cx} {CX : CXT} {k : Nat} {C g : Addr} {fd : FuncData} {ps : List Str} {sp : Sp} {E : XK} {o e : Expr} {es : List Expr} {m : Str} {pos apos : Pos} {ta : TE} {t : TA} {pl : Sem Bool}
theorem pe_cfn (he : PE X o ta) (c : CFn X.K C m g) (F : FnOk X.prog X.w X.K X.mg X.base CX k g fd ps sp) (hr : Room k X.A) (hk : PySem.W.keepIn X.K (.ref g) = true) (hb : Binds X.K fd ps []) (hx : Passes CX X E) (ha : PA X (e :: es) t)
    (hst : starEach (e :: es) X.env = (false, eval e X.env) :: starEach es X.env := by rfl) (hpl : (backTo pos (starEach es X.env)).any (·.1) = false := by rfl)
    (ht : eval (.Call (.Attribute o m apos) (e :: es) [] pos) X.env = (do
      let ov ← eval o X.env
      standAt apos.atName
      let (f, first) ← holding [ov] (getMethod ov m pl)
      callWith pos f first (backTo pos (starEach (e :: es) X.env)) (backToKw pos (keywordEach [] X.env))) := by rfl) :
    PE X (.Call (.Attribute o m apos) (e :: es) [] pos) (tCFn C sp E ta t) := by
  refine ⟨fun pins s σ H Q I h => ?_⟩
  refine PySem.W.methodCall_KW (pl := pl) (thn (he.run pins s σ H _ I h) fun u s1 ⟨x, H1, I1, rx, ex, q⟩ => ?_) ht
  subst ex
  obtain rfl : u = Value.ref C := rx
  refine PySem.W.method_cls I1.kIn c.rd.ga (PySem.W.cls_value I1.kIn c.rd.rd c.at_ (handed_of (v := .ref g) rfl) ?_)
  refine PySem.W.callWith_K (first := []) (h₀ := X.base) I.ok.mod.kin hk (thn (ha.run pos pins _ σ H1 _ (I1.tok _) q) fun us s2 ⟨vs, H2, I2, r, q2⟩ => ⟨I2.kIn, ?_⟩) hst hpl
  exact run_fn (us := us) (vs := vs) F hr hb .nil hx I2 r (by rw [List.append_nil]; exact q2)
end
end L2

/-! The head's facts: a check of one's own, and the top's dicts with text keys; the addresses gathered with a set of bits. -/
namespace He
open PySem PySem.Spec PyProof.Rows L2
/-- those that are new, ahead of the others -/
def visitA : List Addr → Nat → List Addr → Nat × List Addr
  | [], seen, new => (seen, new)
  | a :: as, seen, new => match Nat.testBit seen a with
    | true => visitA as seen new
    | false => match Nat.lor seen (Nat.shiftLeft 1 a) with
      | 0 => visitA as 0 (a :: new)
      | n + 1 => visitA as (n + 1) (a :: new)
def asV (g : Addr → Option Obj) : Nat → Nat → List Addr → List Addr → List Addr
  | 0, _, _, all => all
  | n + 1, seen, new, all => match visitA (new.flatMap fun a => match g a with
      | some o => refsD o
      | none => []) seen [] with
    | (s, ns) => asV g n s ns (ns ++ all)
def as0 (n : Nat) (g : Addr → Option Obj) : List Addr := cStatics :: sysModules :: asV g n (Nat.shiftLeft 1 mainGlobals) [mainGlobals] [mainGlobals]
abbrev AlW : Type := Bool × AlD × List FnW × List (Option (List (Option (Str × Int))))
def obsW (xf : PySem.W.Frag → Bool) (fa : List Fa) (fn : List DefD) (fp : List DefP) (ts : List Tab) (K : PySem.W.Frag) : AlW := (xf K && fp.all fun d => d.ok K, obsD fa fn K, (fp.map fun d => fnAt K (d.path K)), ts.map fun t => dicW K (t.1 K))
def valW (fn : List DefD) (fp : List DefP) (ts : List Tab) (w : World) : AlW := (true, valD fn, fp.map DefP.val, ts.map fun t => some (keysIn w.params t.2))
def obsWG (n : Nat) (xf : PySem.W.Frag → Bool) (fa : List Fa) (fn : List DefD) (fp : List DefP) (ts : List Tab) (g : Addr → Option Obj) : AlW := obsW xf fa fn fp ts (frG g (as0 n g))
structure SaysW (xf : PySem.W.Frag → Bool) (fa : List Fa) (fn : List DefD) (fp : List DefP) (ts : List Tab) (w : World) (K : PySem.W.Frag) : Prop where
  x : xf K = true
  p : ∀ d ∈ fp, d.ok K = true
  d : SaysD fa fn K
  v : fp.map (fun d => fnAt K (d.path K)) = fp.map DefP.val
  t : (ts.map fun t => dicW K (t.1 K)) = ts.map fun t => some (keysIn w.params t.2)
def hookW (n : Nat) (xf : PySem.W.Frag → Bool) (fa : List Fa) (fn : List DefD) (fp : List DefP) (ts : List Tab) : PySem.W.Hook where
  α := AlW
  obs := fun s => obsWG n xf fa fn fp ts s.heap.get?
  val := fun w => valW fn fp ts w
  says := fun w h => ∃ K : PySem.W.Frag, K.In h ∧ SaysW xf fa fn fp ts w K
  of := fun _ _ e => by
    have e1 := ba (congrArg (fun z : AlW => z.1) e)
    exact ⟨_, frG_in, e1.1, fun d hd => List.all_eq_true.mp e1.2 d hd, congrArg (fun z : AlW => z.2.1) e, congrArg (fun z : AlW => z.2.2.1) e, congrArg (fun z : AlW => z.2.2.2) e⟩
  keeps := fun _ _ _ y k => y.imp fun _ z => ⟨PySem.W.Frag.In.keeps z.1 k, z.2⟩
theorem obsWG_eq {n : Nat} {xf : PySem.W.Frag → Bool} {fa : List Fa} {fn : List DefD} {fp : List DefP} {ts : List Tab} {g : Addr → Option Obj} {s : Shared} (h : ∀ a, g a = s.heap.get? a) : obsWG n xf fa fn fp ts g = (hookW n xf fa fn fp ts).obs s := by
  obtain rfl : g = s.heap.get? := funext h
  rfl
theorem comb {α β γ δ : Type} {o : Option α} {A : α → Bool} {B : α → β} {x : α → Bool} {d : α → γ} {e : α → δ} {a : Bool} {b : β} {v : γ} {z : δ} (h1 : o.map (fun s => (A s, B s)) = some (a, b)) (h2 : o.map x = some true) (h3 : o.map (fun s => (d s, e s)) = some (v, z)) : o.map (fun s => (A s, B s, (x s, d s, e s))) = some (a, b, (true, v, z)) := by
  cases o with
  | none => cases h1
  | some s =>
    have k1 : (A s, B s) = (a, b) := Option.some.inj h1
    have k2 : x s = true := Option.some.inj h2
    have k3 : (d s, e s) = (v, z) := Option.some.inj h3
    show some (A s, B s, (x s, d s, e s)) = _
    rw [k2, k3]
    cases k1
    rfl
/-- no such key in a dict of the top -/
theorem miss_of {K : PySem.W.Frag} {w : World} {a : Addr} {ks : List Str} (h : dicW K a = some (keysIn w.params ks)) {x : Str} (hx : x ∉ ks) : PySem.W.nsIn K a x = some none := by
  have key : ∀ {P : Params} {l : List DictEntry} {ks : List Str}, l.map keyOf = keysIn P ks → ∀ e ∈ l, ∃ k t, k ∈ ks ∧ e.key = .str k t := by
    intro P l
    induction l with
    | nil => intro ks _ e he; cases he
    | cons e r ih =>
      intro ks h
      cases ks with
      | nil => cases h
      | cons k ks =>
        have h1 : keyOf e :: r.map keyOf = some (k, PyData.keyHash P k) :: keysIn P ks := h
        injection h1 with h2 h3
        intro e' he
        rcases List.mem_cons.mp he with rfl | he
        · unfold keyOf at h2
          split at h2
          · rename_i y t q
            have h4 := Option.some.inj h2
            obtain ⟨h5, h6⟩ := Prod.mk.inj h4
            exact ⟨k, t, List.mem_cons_self, by rw [q, h5]⟩
          · cases h2
        · obtain ⟨k', t, hm, e1⟩ := ih h3 e' he
          exact ⟨k', t, List.mem_cons_of_mem _ hm, e1⟩
  have fin : ∀ l : List DictEntry, (∀ e ∈ l, ∃ k t, k ∈ ks ∧ e.key = .str k t) → (match l.find? (·.key.isStr x) with
      | some e => some (some e.val)
      | none => if l.any (·.refKey) then none else some none) = some none := by
    intro l hl
    have h1 : l.find? (·.key.isStr x) = none := List.find?_eq_none.mpr fun e he z => by
      obtain ⟨k, t, hk, ek⟩ := hl e he
      rw [ek] at z
      have z : (k == x) = true := z
      exact hx (beq_iff_eq.mp z ▸ hk)
    have h2 : l.any (·.refKey) = false := by
      rw [List.any_eq_false]
      intro e he
      obtain ⟨k, t, hk, ek⟩ := hl e he
      unfold DictEntry.refKey
      rw [ek]
      exact Bool.false_ne_true
    rw [h1, h2]
    rfl
  obtain ⟨es, n, D⟩ := dicW_ok (w := w) h
  have e := D.at_
  have h' : dicW K a = some (es.toList.map keyOf) := by
    unfold dicW at h ⊢
    rw [e] at h ⊢
    dsimp only at h ⊢
    split
    · rfl
    · rename_i z
      rw [z] at h
      cases h
  have h3 : es.toList.map keyOf = keysIn w.params ks := Option.some.inj (h'.symm.trans h)
  unfold PySem.W.nsIn
  rw [e]
  exact fin _ (key h3)
theorem SaysW.tab {xf : PySem.W.Frag → Bool} {fa : List Fa} {fn : List DefD} {fp : List DefP} {ts : List Tab} {w : World} {K : PySem.W.Frag} (c : SaysW xf fa fn fp ts w K) (i : Nat) {t : Tab} (h : ts[i]? = some t := by rfl) : (∃ es n, KDict K w (t.1 K) es n) ∧ ∀ x, x ∉ t.2 → PySem.W.nsIn K (t.1 K) x = some none := by
  have e2 : (ts.map fun t => dicW K (t.1 K))[i]? = (ts.map fun t => some (keysIn w.params t.2))[i]? := by rw [c.t]
  rw [List.getElem?_map, List.getElem?_map, h] at e2
  have e3 := Option.some.inj e2
  exact ⟨dicW_ok e3, fun x hx => miss_of e3 hx⟩
theorem SaysW.def_ {xf : PySem.W.Frag → Bool} {fa : List Fa} {fn : List DefD} {fp : List DefP} {ts : List Tab} {w : World} {K : PySem.W.Frag} (c : SaysW xf fa fn fp ts w K) (i : Nat) {d : DefP} (h : fp[i]? = some d := by rfl) : ∃ fd, FunD K d.name d.qual d.params d.body d.scope [] [] (d.path K) fd := by
  have e2 : (fp.map fun d => fnAt K (d.path K))[i]? = (fp.map DefP.val)[i]? := by rw [c.v]
  rw [List.getElem?_map, List.getElem?_map, h] at e2
  exact DefP.funD (Option.some.inj e2) (c.p d (List.mem_of_getElem? h))
/-- the class C's own def m, read off the class -/
def cfnB (K : PySem.W.Frag) (C : Str) (m : Str) : Bool := PySem.W.readsIn K (ga K C) (.type "type") && (eqO (PySem.W.specialIn K (.ref (ga K C)) "__getattribute__") (some (some (.builtin "type.__getattribute__"))) &&
  (match PySem.W.findCls K (.ref (ga K C)) (.type "type") m with
    | some (.val (.ref g)) => g == ma K (ga K C) m
    | _ => false))
theorem cfn_ok {K : PySem.W.Frag} {C m : Str} (h : cfnB K C m = true) : CFn K (ga K C) m (ma K (ga K C) m) := by
  obtain ⟨h1, h⟩ := ba h
  obtain ⟨h2, h3⟩ := ba h
  refine ⟨⟨h1, eqO_ok h2⟩, ?_⟩
  split at h3
  · rename_i g e
    rw [e, beq_iff_eq.mp h3]
  · cases h3
end He

/-! enumerate over a tuple: the walk, and a for over it. -/
namespace EnT
open PySem PySem.Spec PyProof.Rows
open AutoSeq1 (wpAny_loadPart')
section
variable {P : Program} {w : World} {A : Around} {E : Value → Shared → Prop} {s : Shared} {e j t : Addr} {n : Nat} {xs : Array Value} {x y : Value}
theorem next_in {Q : Value → Shared → Prop} (hj : s.heap.IsTupleIter j t n) (ht : s.heap.IsTuple t xs) (at_ : xs[n]? = some x) (q : ∀ g, g.IsTupleIter j t (n + 1) → Heap.SameBut j s.heap g → Q x { s with heap := g }) :
    wpAny (model P w) A (Builtin.SmallTypes.nextOf (.ref j)) Q E s := by
  obtain ⟨oj, ej, cj, dj⟩ := id hj
  obtain ⟨ot, et, _, m, dt⟩ := ht
  unfold Builtin.SmallTypes.nextOf
  refine wpAny_bind (wpAny_callSpecial?_slot (name := Str.ofString "__next__") hj.typeIs PySem.F.slot_tuple_iterator_next (wpAny_call_entry PySem.F.slot_tuple_iterator_next hj.typeIs PySem.F.entry_tuple_iterator_next ?_ (PySem.F.args_tuple_iterator_next_1 _)))
  show wpAny _ _ (field (.ref j) 0 >>= _) _ _ s
  refine wpAny_bind (wpAny_field ej dj (x := .ref t) rfl ?_)
  show wpAny _ _ (ite ((Value.ref t == Value.none) = true) _ _) _ _ s
  rw [if_neg (show ¬ ((Value.ref t == Value.none) = true) by intro z; cases z)]
  show wpAny _ _ (field (.ref j) 1 >>= _) _ _ s
  refine wpAny_bind (wpAny_field ej dj (x := .int n 0) rfl ?_)
  show wpAny _ _ (seqItems? (Value.ref t) >>= _) _ _ s
  refine wpAny_bind (wpAny_seqItems et dt ?_)
  simp only [Int.toNat_natCast, at_]
  refine wpAny_bind (wpAny_setField ej dj (by simp) (wpAny_pure ⟨x, rfl, wpAny_pure (q _ ⟨_, Heap.get?_update_self _ ej (Obj.isFreed_of_fields (Obj.data_mapFields dj _)), (Obj.cls_mapFields ..).trans cj, ?_⟩ (Heap.SameBut.update ..))⟩))
  rw [Obj.data_mapFields dj]
  simp [rawInt]
theorem next_out {Q : Value → Shared → Prop} (calm : A.handled = none) (hj : s.heap.IsTupleIter j t n) (ht : s.heap.IsTuple t xs) (at_ : xs[n]? = none)
    (q : ∀ g b, Heap.ExtBut j s.heap g → (∃ o, g.get? b = some o ∧ o.cls = .type "StopIteration") → E (.ref b) { s with heap := g }) : wpAny (model P w) A (Builtin.SmallTypes.nextOf (.ref j)) Q E s := by
  obtain ⟨oj, ej, cj, dj⟩ := id hj
  obtain ⟨ot, et, _, m, dt⟩ := ht
  unfold Builtin.SmallTypes.nextOf
  refine wpAny_bind (wpAny_callSpecial?_slot (name := Str.ofString "__next__") hj.typeIs PySem.F.slot_tuple_iterator_next (wpAny_call_entry PySem.F.slot_tuple_iterator_next hj.typeIs PySem.F.entry_tuple_iterator_next ?_ (PySem.F.args_tuple_iterator_next_1 _)))
  show wpAny _ _ (field (.ref j) 0 >>= _) _ _ s
  refine wpAny_bind (wpAny_field ej dj (x := .ref t) rfl ?_)
  show wpAny _ _ (ite ((Value.ref t == Value.none) = true) _ _) _ _ s
  rw [if_neg (show ¬ ((Value.ref t == Value.none) = true) by intro z; cases z)]
  show wpAny _ _ (field (.ref j) 1 >>= _) _ _ s
  refine wpAny_bind (wpAny_field ej dj (x := .int n 0) rfl ?_)
  show wpAny _ _ (seqItems? (Value.ref t) >>= _) _ _ s
  refine wpAny_bind (wpAny_seqItems et dt ?_)
  simp only [Int.toNat_natCast, at_]
  refine wpAny_bind (wpAny_rule (wpAny_bind (wpAny_setField ej dj (by simp) ?_)))
  show wpAny _ _ (newExc (Value.type "StopIteration") [] >>= _) _ _ _
  refine wpAny_bind ?_
  simp only [newExc, newTuple]
  refine wpAny_bind (wpAny_newObj_type ?_ (by first | size_fits | decide))
  refine wpAny_bind (m := firstArgMember _ _) (wpAny_of_eq (a := Value.none) (by first | rfl | (simp only [firstArgMember]; rfl) | skip) ?_)
  refine wpAny_newObj_type ?_ (by first | size_fits | decide)
  simp only [raiseNew]
  refine wpAny_bind (wpAny_handled ?_)
  first | rw [show A.in1.handled = none from calm] | rw [calm]
  refine wpAny_bind (wpAny_pure (wpAny_throw (q _ _ (((Heap.SameBut.update ..).extBut.push _).push _) ⟨_, Heap.get?_push_size _ rfl, rfl⟩)))
/-- the enumerator at e over the iterator at j over the tuple at t, before item n -/
structure On (h : Heap) (e j t : Addr) (n : Nat) (y : Value) : Prop where
  en : IsEnum h e j n y
  it : h.IsTupleIter j t n
  ne : e ≠ j
theorem item {Q : Option Value → Shared → Prop} (o : On s.heap e j t n y) (ht : s.heap.IsTuple t xs) (at_ : xs[n]? = some x)
    (q : ∀ g, IsEnumOut g e j ((n : Int) + 1) x s.heap.objs.size → g.IsTupleIter j t (n + 1) → g.get? s.heap.objs.size = some { cls := .type "tuple", data := .seq #[.int n s.toks, x] } → g.objs.size = s.heap.objs.size + 1 →
      (∀ b ob, b ≠ e → b ≠ j → s.heap.get? b = some ob → g.get? b = some ob) → Q (some (.ref s.heap.objs.size)) { s with heap := g, toks := s.toks + 1 }) : wpAny (model P w) A (pyNext (.ref e)) Q E s := by
  obtain ⟨he, hj, ne⟩ := o
  have ty : s.TypeIs (.ref e) "enumerate" := ⟨_, he, rfl⟩
  unfold pyNext
  refine wpAny_bind (wpAny_attempt (wpAny_callSpecial?_slot (name := Str.ofString "__next__") ty PySem.F.slot_enumerate_next (wpAny_call_entry PySem.F.slot_enumerate_next ty PySem.F.entry_enumerate_next ?_ (PySem.F.args_enumerate_next_1 _))))
  obtain ⟨hp, gs, dr, tk, os⟩ := s
  show wpAny _ _ (field (.ref e) 2 >>= _) _ _ (Shared.mk hp gs dr tk os)
  refine wpAny_bind (wpAny_field he rfl (x := .ref j) rfl ?_)
  refine wpAny_bind (next_in hj ht at_ fun h₁ j₁ b₁ => ?_)
  have b₁ : Heap.SameBut j hp h₁ := b₁
  have e₁ : IsEnum h₁ e j n y := (b₁.2 e ne).trans he
  show wpAny _ _ (field (.ref e) 3 >>= _) _ _ (Shared.mk h₁ gs dr tk os)
  refine wpAny_bind (wpAny_field e₁ rfl (x := rawInt n) rfl ?_)
  show wpAny _ _ (field (.ref e) 4 >>= _) _ _ (Shared.mk h₁ gs dr tk os)
  refine wpAny_bind (wpAny_field e₁ rfl (x := .none) rfl ?_)
  show wpAny _ _ (mkInt n >>= _) _ _ (Shared.mk h₁ gs dr tk os)
  refine wpAny_bind (wpAny_mkInt ?_)
  show wpAny _ _ (setField (.ref e) 3 (rawInt ((n : Int) + 1)) >>= _) _ _ (Shared.mk h₁ gs dr (tk + 1) os)
  refine wpAny_bind (wpAny_setField_rec e₁ (by simp) fun h₂ e₂ b₂ => ?_)
  have b₂ : Heap.SameBut e h₁ h₂ := b₂
  have e₂ : IsEnum h₂ e j ((n : Int) + 1) y := e₂
  show wpAny _ _ (setField (.ref e) 4 .none >>= _) _ _ (Shared.mk h₂ gs dr (tk + 1) os)
  refine wpAny_bind (wpAny_setField_rec e₂ (by simp) fun h₃ e₃ b₃ => ?_)
  have b₃ : Heap.SameBut e h₂ h₃ := b₃
  have e₃ : IsEnum h₃ e j ((n : Int) + 1) y := e₃
  show wpAny _ _ (newTuple [.int n tk, x] >>= _) _ _ (Shared.mk h₃ gs dr (tk + 1) os)
  refine wpAny_bind (wpAny_newTuple ?_)
  have e₄ : IsEnum (h₃.push { cls := .type "tuple", data := .seq #[.int n tk, x] }) e j ((n : Int) + 1) y := Heap.get?_push_of_some _ e₃
  generalize eq : h₃.push { cls := .type "tuple", data := .seq #[.int n tk, x] } = h₄ at e₄
  have z₃ : h₃.objs.size = hp.objs.size := by rw [b₃.1, b₂.1, b₁.1]
  have lt : e < hp.objs.size := Heap.lt_size he
  have t₄ : h₄.get? hp.objs.size = some { cls := .type "tuple", data := .seq #[.int n tk, x] } := by
    rw [← eq, ← z₃]
    exact Heap.get?_push_size _ rfl
  have z₄ : h₄.objs.size = hp.objs.size + 1 := by rw [← eq, Heap.size_push, z₃]
  have k₄ : ∀ b ob, b ≠ e → b ≠ j → hp.get? b = some ob → h₄.get? b = some ob := fun b ob be bj hb => by
    rw [← eq]
    exact Heap.get?_push_of_some _ (b₃.extBut b ob be (b₂.extBut b ob be (b₁.extBut b ob bj hb)))
  have j₄ : h₄.IsTupleIter j t (n + 1) := by
    obtain ⟨ob, eo, r⟩ := (j₁.extBut b₂.extBut (Ne.symm ne)).extBut b₃.extBut (Ne.symm ne)
    rw [← eq]
    exact ⟨ob, Heap.get?_push_of_some _ eo, r⟩
  show wpAny _ _ (Builtin.SmallTypes.ownedTupleIsFree (.ref e) >>= _) _ _ (Shared.mk h₄ gs dr (tk + 1) os)
  rw [z₃]
  refine wpAny_bind ?_
  unfold Builtin.SmallTypes.ownedTupleIsFree
  refine wpAny_bind (wpAny_field e₄ rfl (x := .none) rfl (wpAny_pure ?_))
  simp only [if_true]
  refine wpAny_bind (wpAny_rule ?_)
  refine wpAny_bind (wpAny_field e₄ rfl (x := y) rfl ?_)
  refine wpAny_bind (wpAny_setField_rec e₄ (by simp) fun h₅ e₅ b₅ => ?_)
  have b₅ : Heap.SameBut e h₄ h₅ := b₅
  have e₅ : IsEnum h₅ e j ((n : Int) + 1) x := e₅
  show wpAny _ _ (Builtin.SmallTypes.ownedTupleHandOut (.ref e) (.ref hp.objs.size) >>= _) _ _ (Shared.mk h₅ gs dr (tk + 1) os)
  refine wpAny_bind ?_
  unfold Builtin.SmallTypes.ownedTupleHandOut
  refine wpAny_bind (wpAny_setField_rec e₅ (by simp) fun h₆ e₆ b₆ => ?_)
  have b₆ : Heap.SameBut e h₅ h₆ := b₆
  have e₆ : IsEnumOut h₆ e j ((n : Int) + 1) x hp.objs.size := e₆
  refine wpAny_setField_rec e₆ (by simp) fun h₇ e₇ b₇ => ?_
  have b₇ : Heap.SameBut e h₆ h₇ := b₇
  have e₇ : IsEnumOut h₇ e j ((n : Int) + 1) x hp.objs.size := e₇
  have far := Nat.ne_of_gt lt
  refine wpAny_bind (wpAny_letGo (wpAny_pure ⟨_, rfl, wpAny_pure (q h₇ e₇ (((j₄.extBut b₅.extBut (Ne.symm ne)).extBut b₆.extBut (Ne.symm ne)).extBut b₇.extBut (Ne.symm ne)) ?_ ?_ fun b ob be bj hb => ?_)⟩))
  · exact b₇.extBut _ _ far (b₆.extBut _ _ far (b₅.extBut _ _ far t₄))
  · rw [b₇.1, b₆.1, b₅.1, z₄]
  · exact b₇.extBut b ob be (b₆.extBut b ob be (b₅.extBut b ob be (k₄ b ob be bj hb)))
theorem ends {Q : Option Value → Shared → Prop} (calm : A.handled = none) (o : On s.heap e j t n y) (ht : s.heap.IsTuple t xs) (at_ : xs[n]? = none)
    (q : ∀ g, Heap.ExtBut j s.heap g → Q none { s with heap := g }) : wpAny (model P w) A (pyNext (.ref e)) Q E s := by
  obtain ⟨he, hj, ne⟩ := o
  have ty : s.TypeIs (.ref e) "enumerate" := ⟨_, he, rfl⟩
  unfold pyNext
  refine wpAny_bind (wpAny_attempt (wpAny_callSpecial?_slot (name := Str.ofString "__next__") ty PySem.F.slot_enumerate_next (wpAny_call_entry PySem.F.slot_enumerate_next ty PySem.F.entry_enumerate_next ?_ (PySem.F.args_enumerate_next_1 _))))
  show wpAny _ _ (field (.ref e) 2 >>= _) _ _ s
  refine wpAny_bind (wpAny_field he rfl (x := .ref j) rfl ?_)
  refine wpAny_bind (next_out calm hj ht at_ fun g b x1 x2 => ?_)
  obtain ⟨ob, eb, cb⟩ := x2
  exact wpAny_bind (wpAny_isInstance (T := "StopIteration") (b := true) ⟨ob, eb, cb⟩ isSubtype_stop (wpAny_pure (q _ x1)))
theorem meets_new (t : Addr) (xs : Array Value) (m : Nat) (dd : Option Addr) (sl : Array (Option Value)) :
    Meets (Builtin.«enumerate.__new__» ⟨[.type "enumerate", .ref t], []⟩) (fun _ R s => s.heap.get? t = some { cls := .type "tuple", dict := dd, data := .seq xs m, slots := sl } ∧
      R (.ok (.ret (.ref (s.heap.push { cls := .type "tuple_iterator", data := .fields #[.ref t, .int 0 0] }).objs.size)))
        { s with heap := (s.heap.push { cls := .type "tuple_iterator", data := .fields #[.ref t, .int 0 0] }).push { cls := .type "enumerate", data := .fields #[.none, .bool false, .ref s.heap.objs.size, rawInt 0, .none, .none] } }) :=
  .of_wp fun prog w A R s hh => by
    obtain ⟨hp, gs, dr, tk, os⟩ := s
    obtain ⟨ht, hh⟩ := hh
    have sb := sub_enumerate
    have hT : Heap.IsTuple (Shared.heap ⟨hp, gs, dr, tk, os⟩) t xs := ⟨_, ht, rfl, m, rfl⟩
    wp_walk using wpAny_loadPart' ht
    refine wpAny_stack_any fun st => wpAny_pure ?_
    split
    · rename_i c _ _ _ _ _
      cases (c == Value.type "enumerate")
      · wp_walk using wpAny_loadPart' ht, wpAny_pyIter_tuple hT
        exact ⟨_, rfl, hh⟩
      · wp_walk using wpAny_loadPart' ht, wpAny_pyIter_tuple hT
        exact ⟨_, rfl, hh⟩
    · wp_walk using wpAny_loadPart' ht, wpAny_pyIter_tuple hT
      exact ⟨_, rfl, hh⟩
theorem made {Q : Value → Shared → Prop} (ht : s.heap.IsTuple t xs)
    (q : ∀ g, On g (s.heap.objs.size + 1) s.heap.objs.size t 0 .none → g.objs.size = s.heap.objs.size + 2 → (∀ b o, s.heap.get? b = some o → g.get? b = some o) → Q (.ref (s.heap.objs.size + 1)) { s with heap := g }) :
    wpAny (model P w) A (call (.type "enumerate") [.ref t]) Q E s := by
  obtain ⟨⟨c, dd, dt, sl⟩, et, hc, m, hd⟩ := ht
  obtain rfl : c = .type "tuple" := hc
  obtain rfl : dt = .seq xs m := hd
  refine callType_new PySem.F.called_enumerate (by decide) (PySem.F.typeCall_enumerate_1 _) (PySem.F.newCall_enumerate_1 _) (fun obj => PySem.F.args_object_init_2 obj _) PySem.F.entry_enumerate_new (meets_new t xs m dd sl) ⟨et, ?_⟩
  have z : (s.heap.push { cls := .type "tuple_iterator", data := .fields #[.ref t, .int 0 0] }).objs.size = s.heap.objs.size + 1 := Heap.size_push ..
  show _ ∧ _
  rw [z]
  have en := Heap.get?_push_size (s.heap.push { cls := .type "tuple_iterator", data := .fields #[.ref t, .int 0 0] }) (o := { cls := .type "enumerate", data := .fields #[.none, .bool false, .ref s.heap.objs.size, rawInt 0, .none, .none] }) rfl
  rw [z] at en
  exact ⟨⟨_, en, rfl⟩, q _ ⟨en, ⟨_, Heap.get?_push_of_some _ (Heap.get?_push_size _ rfl), rfl, rfl⟩, Nat.succ_ne_self _⟩ (by rw [Heap.size_push, z]) fun b o y => Heap.get?_push_of_some _ (Heap.get?_push_of_some _ y)⟩
end
end EnT
namespace L2
open PySem PySem.Spec PyProof.Rows
/-- the tuple at a, each item in a new pair with its number -/
def Itet (K : PySem.W.Frag) (a : Addr) : It :=
  ⟨fun i H => ∃ (xs : List V) (x : V), SqT K H a xs ∧ xs[i]? = some x, fun i H v H' => ∃ T x, v = .ref T ∧ H T = none ∧ H' = upd H T (.tup [.int (i : Nat), x]) ∧ ∀ xs, SqT K H a xs → xs[i]? = some x, fun i H => ∃ xs : List V, SqT K H a xs ∧ xs.length ≤ i⟩
theorem turn_enumT {P : Program} {w : World} {K : PySem.W.Frag} {elts : List Expr} {kk : Nat} {tpos : Pos} (a e j : Addr) :
    Turn P w K (.Tuple elts kk tpos) (Itet K a) [e, j] e (fun i h => ∃ old, EnT.On h e j a i old) where
  mem := List.mem_cons_self
  obj := fun i h st b hb => by
    obtain ⟨old, he, ⟨o, ho, hc, hd⟩, _⟩ := st
    rcases List.mem_cons.mp hb with rfl | hb
    · exact ⟨_, he, fun v q => nomatch q⟩
    · obtain rfl := List.mem_singleton.mp hb
      exact ⟨o, ho, fun v q => by
        rw [hd] at q
        cases q⟩
  keep := fun i h h' st k => by
    obtain ⟨old, he, ⟨o, ho, r⟩, ne⟩ := st
    exact ⟨old, k e List.mem_cons_self _ he, ⟨o, k j (List.mem_cons_of_mem _ List.mem_cons_self) _ ho, r⟩, ne⟩
  item := by
    intro X hP hw hK hc i pins s σ H E I hf st hg
    subst hP hw hK
    obtain ⟨old, on⟩ := st
    obtain ⟨xs, x, hq, hx⟩ := hg
    obtain ⟨its, rv, p, hz⟩ := I.tuple hq
    obtain ⟨u, hu, ru⟩ := rv.get hx
    have el : e < s.heap.objs.size := Heap.lt_size on.en
    have jl : j < s.heap.objs.size := by
      obtain ⟨_, q, _⟩ := on.it
      exact Heap.lt_size q
    refine EnT.item on p (x := u) (by simpa using hu) fun g ho hj hT hsz hk => ?_
    refine ⟨_, rfl, wpAny_letOwnedTupleGo_enum (s := { s with heap := g, toks := s.toks + 1 }) ho fun g2 he' sb => ?_⟩
    have hT2 : g2.get? s.heap.objs.size = some { cls := .type "tuple", data := .seq #[.int i s.toks, u] } := (sb.2 _ (Nat.ne_of_gt el)).trans hT
    have new : ObjOk X.prog X.w (upd H s.heap.objs.size (.tup [.int (i : Nat), x])) g2 s.heap.objs.size (.tup [.int (i : Nat), x]) :=
      ⟨by show 2 ≤ sizeLine; decide, [.int i s.toks, u], .cons ⟨_, rfl⟩ (.cons ru .nil), ⟨_, hT2, rfl, _, rfl⟩⟩
    have keep : ∀ b ob, b ∉ [e, j] → s.heap.get? b = some ob → g2.get? b = some ob := fun b ob hb q =>
      (sb.2 b fun z => hb (by rw [z]; exact List.mem_cons_self)).trans (hk b ob (fun z => hb (by rw [z]; exact List.mem_cons_self)) (fun z => hb (by rw [z]; exact List.mem_cons_of_mem _ List.mem_cons_self)) q)
    have I1 : Inv X pins σ (upd H s.heap.objs.size (.tup [.int (i : Nat), x])) { s with heap := g2, toks := s.toks + 1 } := I.turnedNew (ch := [e, j]) keep hf (Nat.le_refl _) new
    obtain ⟨o, eo, r⟩ := hj
    refine ⟨.ref s.heap.objs.size, _, I1, rfl, ⟨_, x, rfl, I.hok.fresh (Nat.le_refl _), rfl, fun ys hy => by rw [I.tuple_inj hy hq]; exact hx⟩, ⟨u, ?_, ⟨o, (sb.2 j (Ne.symm on.ne)).trans eo, r⟩, on.ne⟩, fun b hb => ?_⟩
    · rw [show ((i + 1 : Nat) : Int) = (i : Int) + 1 by omega]
      exact he'
    · have hb' : b < s.heap.objs.size := by
        rcases List.mem_cons.mp hb with rfl | hb
        · exact el
        · rw [List.mem_singleton.mp hb]
          exact jl
      rw [upd_ne (Nat.ne_of_lt hb')]
      exact (hf b hb).1
  done := by
    intro X hP hw hK hc i pins s σ H E I hf st hg
    subst hP hw hK
    obtain ⟨old, on⟩ := st
    obtain ⟨xs, hq, hx⟩ := hg
    obtain ⟨its, rv, p, hz⟩ := I.tuple hq
    obtain ⟨f0, f1, f2, f3, f4, f5⟩ := hf j (List.mem_cons_of_mem _ List.mem_cons_self)
    have hl := rv.length
    exact EnT.ends (I.ok.hd hc) on p (by simp; omega) fun g eb => ⟨rfl, I.turned (t' := s.toks) (fun b o hb q => eb b o hb q) f0 f1 f3 f4 f5⟩
  self := fun A i s Q E st h => let ⟨_, on⟩ := st; wpAny_pyIter_enum on.en h
def iEnumT (K : PySem.W.Frag) (ta : TA) : TI := fun σ H R => ta σ H fun vs H1 => ∃ a xs, vs = [.ref a] ∧ SqT K H1 a xs ∧ R (Itet K a) H1
theorem pi_enumT {X : Cx} {e : Expr} {ta : TA} {p pos tpos : Pos} {elts : List Expr} {kk : Nat} (hg : Gl X "enumerate") (hm : X.mg "enumerate" = none) (ha : PA X [e] ta) (hs : starEach [e] X.env = [(false, eval e X.env)] := by rfl) :
    PI X (.Tuple elts kk tpos) (.Call (.Name "enumerate" p) [e] [] pos) (iEnumT X.K ta) := by
  refine ⟨fun pins s σ H R I h => Call_ (ld_blt I hg hm boot_enumerate (PyProof.Rows.callWith_type1 (thn (ha.run pos pins s σ H _ I h) fun us s1 ⟨vs, H1, I1, r1, q1⟩ => ?_) hs rfl))⟩
  obtain ⟨a, xs, rfl, hq, q⟩ := q1
  obtain ⟨u, rfl, ru⟩ := vals1 r1
  cases ru
  obtain ⟨its, rv, pt, hz⟩ := I1.tuple hq
  refine EnT.made pt fun g on hsz hk => wpAny_pyIter_enum on.en ⟨s1.heap.objs.size + 1, [s1.heap.objs.size + 1, s1.heap.objs.size], _, _, H1, rfl, I1.kept (t' := s1.toks) hk, turn_enumT a (s1.heap.objs.size + 1) s1.heap.objs.size, ⟨_, on⟩, fun b hb => ?_, q⟩
  have le : s1.heap.objs.size ≤ b := by
    rcases List.mem_cons.mp hb with rfl | hb
    · exact Nat.le_succ _
    · rw [List.mem_singleton.mp hb]
      exact Nat.le_refl _
  exact I1.fpOk le (I1.hok.fresh le)
/-- the same over a list or a tuple -/
def iEnumA (K : PySem.W.Frag) (ta : TA) : TI := fun σ H R => ta σ H fun vs H1 => ∃ a xs, vs = [.ref a] ∧ ((SqL K H1 a xs ∧ R (Ite K a) H1) ∨ (SqT K H1 a xs ∧ R (Itet K a) H1))
theorem pi_enumA {X : Cx} {e : Expr} {ta : TA} {p pos tpos : Pos} {elts : List Expr} {kk : Nat} (hg : Gl X "enumerate") (hm : X.mg "enumerate" = none) (ha : PA X [e] ta) (hs : starEach [e] X.env = [(false, eval e X.env)] := by rfl) :
    PI X (.Tuple elts kk tpos) (.Call (.Name "enumerate" p) [e] [] pos) (iEnumA X.K ta) := by
  refine ⟨fun pins s σ H R I h => Call_ (ld_blt I hg hm boot_enumerate (PyProof.Rows.callWith_type1 (thn (ha.run pos pins s σ H _ I h) fun us s1 ⟨vs, H1, I1, r1, q1⟩ => ?_) hs rfl))⟩
  obtain ⟨a, xs, rfl, q1⟩ := q1
  obtain ⟨u, rfl, ru⟩ := vals1 r1
  cases ru
  have le : ∀ b, b ∈ [s1.heap.objs.size + 1, s1.heap.objs.size] → s1.heap.objs.size ≤ b := fun b hb => by
    rcases List.mem_cons.mp hb with rfl | hb
    · exact Nat.le_succ _
    · rw [List.mem_singleton.mp hb]
      exact Nat.le_refl _
  rcases q1 with ⟨hq, q⟩ | ⟨hq, q⟩
  · obtain ⟨its, rv, pt, hz⟩ := I1.list hq
    exact call_enumerate_list pt.isList fun g he hit hsz hk => wpAny_pyIter_enum he ⟨s1.heap.objs.size + 1, [s1.heap.objs.size + 1, s1.heap.objs.size], _, _, H1, rfl, I1.kept (t' := s1.toks) hk, turn_enum a (s1.heap.objs.size + 1) s1.heap.objs.size, ⟨⟨.none, he⟩, hit, Nat.succ_ne_self _⟩, fun b hb => I1.fpOk (le b hb) (I1.hok.fresh (le b hb)), q⟩
  · obtain ⟨its, rv, pt, hz⟩ := I1.tuple hq
    exact EnT.made pt fun g on hsz hk => wpAny_pyIter_enum on.en ⟨s1.heap.objs.size + 1, [s1.heap.objs.size + 1, s1.heap.objs.size], _, _, H1, rfl, I1.kept (t' := s1.toks) hk, turn_enumT a (s1.heap.objs.size + 1) s1.heap.objs.size, ⟨_, on⟩, fun b hb => I1.fpOk (le b hb) (I1.hok.fresh (le b hb)), q⟩
theorem walk_enumT {K : PySem.W.Frag} {a : Addr} {xs : List V} : Walk (Itet K a) xs.length (fun H => SqT K H a xs) (YPair (fun i => some (.int (i : Nat))) (fun i => xs[i]?)) where
  goes := fun i H hi h => ⟨xs, xs[i], h, List.getElem?_eq_getElem hi⟩
  stops := fun H h => ⟨xs, h, Nat.le_refl _⟩
  yields := fun i H x H' hi h y => by
    obtain ⟨T, z, rfl, n, rfl, e⟩ := y
    exact ⟨T, _, z, rfl, n, rfl, rfl, e xs h⟩
end L2

/-! Further readings, one construct at a time. -/
namespace L2
open PySem PySem.Spec PyProof.Rows
/-- what a for asks of its walk -/
def ForG (J : It) (g : TG) (tb : TS) (D : Ends) (σ : L2.St) (H1 : Hp) : Prop :=
  ∃ W : Nat → Nat → L2.St → Hp → Prop, (∃ m, W 0 m σ H1) ∧ ∀ i m σ H, W i m σ H → (J.stop i H ∧ D.nx σ H) ∨ (J.go i H ∧ ∃ N : L2.St → Hp → Prop, (∀ σ' H', N σ' H' → ∃ m', m' < m ∧ W (i + 1) m' σ' H') ∧
    ∀ x H', J.yld i H x H' → g x σ H' fun σ2 H2 => tb { nx := N, rt := D.rt, bk := D.nx, ct := N } σ2 H2)
/-- what a comprehension over a range asks -/
def LcJ (J : It) (i : Nat) (ii : List Nat) (te : TE) (σ : L2.St) (H1 : Hp) (Q : VK) : Prop :=
  ∀ D, H1 D = none → ∃ W : Nat → Nat → Hp → Prop, (∃ m, W 0 m (upd H1 D (.lst []))) ∧ ∀ k m H, W k m H →
      (J.stop k H ∧ Q (.ref D) H) ∨ (J.go k H ∧ ∃ Nx : Hp → Prop, (∀ H', Nx H' → ∃ m', m' < m ∧ W (k + 1) m' H') ∧ ∀ x H', J.yld k H x H' → gName i x (wipe σ ii) H' fun σ2 H2 => wipe σ2 ii = wipe σ ii ∧ tYes σ2 H2 fun b H3 =>
        if b = true then te σ2 H3 (fun y H4 => ∃ acc, H4 D = some (.lst acc) ∧ acc.length < sizeLine ∧ Nx (upd H4 D (.lst (acc ++ [y])))) else Nx H3)
theorem lcR1 {ta : TA} {te : TE} {i : Nat} {ii : List Nat} {σ : L2.St} {H : Hp} {Q : VK} (h : ta σ H fun vs H1 => ∃ j, vs = [.int j] ∧ -2 ^ 62 ≤ j ∧ j < 2 ^ 62 ∧ LcJ (Itr 0 j.toNat) i ii te σ H1 Q) : tLc (iRng1 ta) (gName i) tYes te ii σ H Q := h
theorem lcR2 {ta : TA} {te : TE} {i : Nat} {ii : List Nat} {σ : L2.St} {H : Hp} {Q : VK} (h : ta σ H fun vs H1 => ∃ a b, vs = [.int a, .int b] ∧ (-2 ^ 62 ≤ a ∧ a < 2 ^ 62 ∧ -2 ^ 62 ≤ b ∧ b < 2 ^ 62) ∧ LcJ (Itr a (b - a).toNat) i ii te σ H1 Q) : tLc (iRng2 ta) (gName i) tYes te ii σ H Q := h
/-- over a range, by what holds of the turn, of what is made so far, and of the heap -/
theorem lcGen {lo : Int} {n i : Nat} {ii : List Nat} {te : TE} {σ : L2.St} {H1 : Hp} {Q : VK} (J : Nat → List V → Hp → Prop) (hi : ii = [i]) (hl : n ≤ 100000) (j0 : J 0 [] H1)
    (st : ∀ k acc (H : Hp) D o, H1 D = none → J k acc H → J k acc (upd H D o))
    (ht : ∀ k acc (H2 : Hp) (Q' : VK), k < n → acc.length = k → J k acc H2 → (∀ v (H3 : Hp), (∀ b o, H1 b = none → H2 b = some o → H3 b = some o) → J (k + 1) (acc ++ [v]) H3 → Q' v H3) → te ((wipe σ [i]).set i (some (.int (lo + (k : Int))))) H2 Q')
    (q : ∀ D acc (H2 : Hp), H1 D = none → acc.length = n → J n acc H2 → H2 D = some (.lst acc) → Q (.ref D) H2) : LcJ (Itr lo n) i ii te σ H1 Q := by
  subst hi
  intro D hD
  refine lc_it walk_range (fun k H2 => ∃ acc : List V, acc.length = k ∧ J k acc H2 ∧ H2 D = some (.lst acc)) ⟨[], rfl, st 0 [] H1 D _ hD j0, upd_same⟩ (fun _ _ _ _ => trivial) (fun k x H H' hk p hy => ?_) fun H2 p => ?_
  · obtain ⟨rfl, rfl⟩ := hy
    obtain ⟨acc, al, j, c⟩ := p
    refine ⟨by show List.set (List.set (List.set σ i none) i _) i none = List.set σ i none; rw [List.set_set, List.set_set], iteT (B := ∃ acc : List V, acc.length = k + 1 ∧ J (k + 1) acc H' ∧ H' D = some (.lst acc)) ?_⟩
    refine ht k acc H' _ hk al j fun v H3 kp j3 => ⟨acc, kp D _ hD c, ?_, acc ++ [v], by rw [List.length_append, al]; rfl, st _ _ _ D _ hD j3, upd_same⟩
    rw [al]
    exact Nat.lt_of_lt_of_le (show k < 100001 by omega) (by decide)
  · obtain ⟨acc, al, j, c⟩ := p
    exact q D acc H2 hD al j c
end L2
namespace Rd
open PySem PySem.Spec PyProof.Rows L2
section
variable {σ : L2.St} {H : Hp} {i : Nat} {v x y : V} {ta tb tc te : TE} {t tr : TA} {r r' : R2} {Q : VK} {QA : List V → Hp → Prop} {QB : Bool → Hp → Prop} {D : Ends} {t1 t2 : TS} {tt uu : TT} {xs ys : List V} {K : PySem.W.Frag} {g : TG} {m : V → Option Int → Option Int → Hp → VK → Prop}
theorem andV (h : ta σ H fun x H1 => ∃ c, x = .bl c ∧ if c = true then tb σ H1 Q else Q (.bl false) H1) : tAndV ta tb σ H Q := h
theorem orV (h : ta σ H fun x H1 => ∃ c, x = .bl c ∧ if c = true then Q (.bl true) H1 else tb σ H1 Q) : tOrV ta tb σ H Q := h
theorem notV (h : ta σ H fun x H1 => ∃ c, x = .bl c ∧ Q (.bl (!c)) H1) : tNotV ta σ H Q := h
theorem andT (h : tt σ H fun c H1 => if c = true then uu σ H1 QB else QB false H1) : tAnd tt uu σ H QB := h
theorem orT (h : tt σ H fun c H1 => if c = true then QB true H1 else uu σ H1 QB) : tOr tt uu σ H QB := h
theorem chain (h : ta σ H fun x H1 => tb σ H1 fun y H2 => r x y H2 fun z H3 => ∃ k, z = .bl k ∧ (if k = true then tc σ H3 fun w' H4 => r' y w' H4 Q else Q (.bl false) H3)) : tChain r r' ta tb tc σ H Q := h
theorem isT {k : Bool} {A B : Prop} (e : k = true) (h : A) : ∃ c, V.bl k = .bl c ∧ if c = true then A else B := ⟨k, rfl, by rw [e]; exact iteT h⟩
theorem isF {k : Bool} {A B : Prop} (e : k = false) (h : B) : ∃ c, V.bl k = .bl c ∧ if c = true then A else B := ⟨k, rfl, by rw [e]; exact iteF h⟩
theorem forEA {D : Ends} (h : t σ H fun vs H1 => ∃ a xs, vs = [.ref a] ∧ ((SqL K H1 a xs ∧ ForG (Ite K a) g t1 D σ H1) ∨ (SqT K H1 a xs ∧ ForG (Itet K a) g t1 D σ H1))) : tFor (iEnumA K t) g t1 D σ H := h
theorem forR1 {D : Ends} (h : t σ H fun vs H1 => ∃ j, vs = [.int j] ∧ -2 ^ 62 ≤ j ∧ j < 2 ^ 62 ∧ ForG (Itr 0 j.toNat) g t1 D σ H1) : tFor (iRng1 t) g t1 D σ H := h
theorem forR2 {D : Ends} (h : t σ H fun vs H1 => ∃ i j, vs = [.int i, .int j] ∧ (-2 ^ 62 ≤ i ∧ i < 2 ^ 62 ∧ -2 ^ 62 ≤ j ∧ j < 2 ^ 62) ∧ ForG (Itr i (j - i).toNat) g t1 D σ H1) : tFor (iRng2 t) g t1 D σ H := h
theorem forL {D : Ends} (h : te σ H fun x H1 => ∃ a, x = .ref a ∧ (∃ xs, SqL K H1 a xs) ∧ ForG (Itl K a) g t1 D σ H1) : tFor (iList K te) g t1 D σ H := h
theorem forT {D : Ends} (h : te σ H fun x H1 => ∃ a, x = .ref a ∧ (∃ xs, SqT K H1 a xs) ∧ ForG (Itt K a) g t1 D σ H1) : tFor (iTup K te) g t1 D σ H := h
theorem meth {C : Addr} {mn : Str} {sp : Sp} {dvs : List V} {E : XK} (h : ta σ H fun x H1 => ∃ a dx fs, x = .ref a ∧ H1 a = some (.ins C dx fs) ∧ fs.lookup mn = none ∧ t σ H1 fun vs H2 => sp (x :: (vs ++ dvs)) H2 Q E) : tMeth C mn sp dvs E ta t σ H Q := h
theorem make {C : Addr} {sp : Sp} {dvs : List V} {E : XK} (h : t σ H fun vs H1 => ∀ x dx, H1 x = none → H1 dx = none → dx ≠ x → sp (.ref x :: (vs ++ dvs)) (upd (upd H1 dx (.own x)) x (.ins C dx [])) (fun v H2 => v = .non ∧ Q (.ref x) H2) E) : tMake C sp dvs E t σ H Q := h
theorem prop {C : Addr} {sp : Sp} {dvs : List V} {E : XK} (h : ta σ H fun x H1 => ∃ a dx fs, x = .ref a ∧ H1 a = some (.ins C dx fs) ∧ sp (.ref a :: dvs) H1 Q E) : tProp C sp dvs E ta σ H Q := h
theorem js {ts : List TE} {acc : Str} {QS : Str → Hp → Prop} (h : te σ H fun x H1 => ∃ y : Str, x = .str y ∧ (acc ++ y).length ≤ sizeLine ∧ tJs ts (acc ++ y) σ H1 QS) : tJs (te :: ts) acc σ H QS := h
theorem js0 {acc : Str} {QS : Str → Hp → Prop} (h : QS acc H) : tJs [] acc σ H QS := h
theorem par {j : Nat} {D : Ends} (h : t σ H fun vs H1 => ∃ v w, vs = [v, w] ∧ D.nx ((σ.set i (some v)).set j (some w)) H1) : tPar i j t D σ H := h
theorem star (h : te σ H fun x H1 => ∃ p xs, x = .ref p ∧ (SqT K H1 p xs ∨ SqL K H1 p xs) ∧ t σ H1 fun ys H2 => QA (xs ++ ys) H2) : StX.tStar K te t σ H QA := h
theorem m0 {rm : V → List V → Hp → VK → Prop} (h : te σ H fun x H1 => (∃ a, x = .str a) ∧ rm x [] H1 Q) : tM0 rm te σ H Q := h
theorem m1 {rm : V → List V → Hp → VK → Prop} (h : ta σ H fun x H1 => (∃ a, x = .str a) ∧ te σ H1 fun y H2 => rm x [y] H2 Q) : tM1 rm ta te σ H Q := h
theorem bm0 {T : String} {rm : V → List V → Hp → VK → Prop} (h : te σ H fun x H1 => tyV K T x H1 ∧ rm x [] H1 Q) : tBM0 K T rm te σ H Q := h
theorem bm {T : String} {rm : V → List V → Hp → VK → Prop} (h : te σ H fun x H1 => tyV K T x H1 ∧ t σ H1 fun xs H2 => rm x xs H2 Q) : tBM K T rm te t σ H Q := h
theorem sl {tl th : TO} (h : te σ H fun x H1 => tl σ H1 fun l H2 => th σ H2 fun u H3 => m x l u H3 Q) : L2.tSl m te tl th σ H Q := h
theorem part {QO : Option Int → Hp → Prop} (h : te σ H fun x H1 => ∃ i, x = .int i ∧ QO (some i) H1) : tPart te σ H QO := h
theorem part0 {QO : Option Int → Hp → Prop} (h : QO none H) : tNoPart σ H QO := h
theorem isI {i : Int} {QO : Int → Prop} (h : QO i) : ∃ j, V.int i = .int j ∧ QO j := ⟨i, rfl, h⟩
theorem fmt (h : te σ H fun x H1 => (∃ y : Str, x = .str y ∧ y.length ≤ sizeLine ∧ Q (.str y) H1) ∨ ∃ i : Int, x = .int i ∧ i.natAbs.log2 < 1920 ∧ Q (.str (toString i)) H1) : tFmt te σ H Q := h
theorem fmtRD (h : te σ H fun x H1 => ∃ a d, x = .ref a ∧ Dd K H1 (.ref a) d ∧ d.showable = true ∧ d.depth ≤ 20 ∧ d.shown.length ≤ sizeLine ∧ Q (.str d.shown) H1) : tFmtRD K te σ H Q := h
theorem fld {f : Str} (h : te σ H fun x H1 => ∃ a C dx fs v, x = .ref a ∧ H1 a = some (.ins C dx fs) ∧ Cls K C ∧ NoAttr K C f ∧ fs.lookup f = some v ∧ Q v H1) : tFld K te f σ H Q := h
theorem sfld {f : Str} {D : Ends} (h : tb σ H fun y H1 => ta σ H1 fun x H2 => ∃ a C dx fs, x = .ref a ∧ H2 a = some (.ins C dx fs) ∧ Cls K C ∧ NoAttr K C f ∧ fs.length < 1000 ∧ D.nx σ (upd H2 a (.ins C dx (putF f y fs)))) : sFld K ta tb f D σ H := h
theorem aug {ti : TIp} (h : ∃ x, σ[i]? = some (some x) ∧ te σ H fun y H1 => ti x y H1 fun z H2 => D.nx (σ.set i (some z)) H2) : tAug i te ti D σ H := h
theorem expr {D : Ends} (h : te σ H fun _ H1 => D.nx σ H1) : tDrop te D σ H := h
/-- isinstance of one written class -/
theorem isi {x : V} {a b : String} {k : Bool} (ty : TyX K H x (.type a)) (e : kitB a b = some k) (q : Q (.bl k) H) : rIsi K [x, .ty b] H Q := ⟨x, .ty b, .type a, .type b, k, rfl, .ty b, ty, kit_ty e, q⟩
theorem whl {D : Ends} (h : ∃ W : Nat → L2.St → Hp → Prop, (∃ m, W m σ H) ∧ ∀ m σ H, W m σ H → tt σ H fun b H1 => if b = true then ∃ N : L2.St → Hp → Prop, (∀ σ' H', N σ' H' → ∃ m', m' < m ∧ W m' σ' H') ∧ t1 { D with nx := N, ct := N, bk := D.nx } σ H1 else D.nx σ H1) : tWhile tt t1 D σ H := h
theorem ixT {p : Addr} {a : Int} (h : SqT K H p xs) (e : atI xs a = some v) (q : Q v H) : rIxT K (.ref p) (.int a) H Q := ⟨p, xs, a, v, rfl, rfl, h, e, q⟩
theorem at_neg {j : Nat} (h : j < xs.length) : atI xs (-1 - (j : Int)) = xs[xs.length - 1 - j]? := by
  unfold atI ixN
  rw [if_neg (by omega), if_pos (by omega)]
  show xs[_]? = _
  congr 1
  omega
theorem at_nat {j : Nat} (h : j < xs.length) : atI xs (j : Int) = xs[j]? := by
  unfold atI ixN
  rw [if_pos (by omega), if_pos (by omega)]
  show xs[_]? = _
  congr 1
theorem at_last (h : 0 < xs.length) : atI xs (-1) = xs[xs.length - 1]? := at_neg (j := 0) h
theorem ixL' {p : Addr} {a : Int} (h : SqL K H p xs) (e : atI xs a = some v) (q : Q v H) : rIxL K (.ref p) (.int a) H Q := ⟨p, xs, a, v, rfl, rfl, h, e, q⟩
/-! slices and sums of sequences, where only what is made is said -/
theorem cut_whole {lo hi : Option Int} (w : HT.sIx xs.length 0 lo = 0 ∧ HT.sIx xs.length xs.length hi = xs.length) : cutV xs lo hi = xs := by
  unfold cutV
  rw [w.1, w.2, List.drop_zero, Nat.sub_zero, List.take_length]
theorem cut_from {k : Nat} (h : k ≤ xs.length) : cutV xs (some (k : Int)) none = xs.drop k := by
  unfold cutV
  rw [HT.sIx_nat, HT.sIx_none, Nat.min_eq_left h, List.take_of_length_le (by rw [List.length_drop]; omega)]
theorem cut_to {k : Nat} : cutV xs none (some (k : Int)) = xs.take k := by
  unfold cutV
  rw [HT.sIx_nat, HT.sIx_none, List.drop_zero, Nat.sub_zero]
  by_cases h : k ≤ xs.length
  · rw [Nat.min_eq_left h]
  · rw [Nat.min_eq_right (by omega), List.take_length, List.take_of_length_le (by omega)]
theorem cut_last {k : Nat} (h : xs.length = k + 1) : cutV xs (some (-1)) none = xs.drop k := by
  unfold cutV
  have e : HT.sIx xs.length 0 (some (-1)) = k := by
    show (if (-1 : Int) < 0 then ((-1 : Int) + (xs.length : Int)).toNat else min (-1 : Int).toNat xs.length) = k
    rw [if_pos (by decide), h]
    omega
  rw [e, HT.sIx_none, List.take_of_length_le (by rw [List.length_drop]; omega)]
theorem cut_front {k : Nat} (h : xs.length = k + 1) : cutV xs none (some (-1)) = xs.take k := by
  unfold cutV
  have e : HT.sIx xs.length xs.length (some (-1)) = k := by
    show (if (-1 : Int) < 0 then ((-1 : Int) + (xs.length : Int)).toNat else min (-1 : Int).toNat xs.length) = k
    rw [if_pos (by decide), h]
    omega
  rw [e, HT.sIx_none, List.drop_zero, Nat.sub_zero]
theorem slA {a : Addr} {lo hi : Option Int} (h : SqT K H a xs) (q : ∀ (p : Addr) (H' : Hp), Same H H' → SqT K H' p (cutV xs lo hi) → Q (.ref p) H') : rSlA K (.ref a) lo hi H Q :=
  ⟨a, xs, rfl, h, fun w => q a H (Same.refl _) (by rw [cut_whole w]; exact h), fun _ p hp => q p _ (fun b u e => by rw [upd_ne (ne_of_none e hp)]; exact e) (SqT.of upd_same)⟩
theorem slL {a : Addr} {lo hi : Option Int} (h : SqL K H a xs) (q : ∀ (p : Addr) (H' : Hp), H p = none → Same H H' → H' p = some (.lst (cutV xs lo hi)) → Q (.ref p) H') : rSlL K (.ref a) lo hi H Q :=
  ⟨a, xs, rfl, h, fun p hp => q p _ hp (fun b u e => by rw [upd_ne (ne_of_none e hp)]; exact e) upd_same⟩
theorem catA {a b : Addr} (h1 : SqT K H a xs) (h2 : SqT K H b ys) (z : xs.length + ys.length ≤ 100000) (q : ∀ (p : Addr) (H' : Hp), Same H H' → SqT K H' p (xs ++ ys) → Q (.ref p) H') : rCatA K (.ref a) (.ref b) H Q :=
  ⟨a, b, xs, ys, rfl, rfl, h1, h2, small z, fun e => q b H (Same.refl _) (by rw [e, List.nil_append]; exact h2), fun _ e => q a H (Same.refl _) (by rw [e, List.append_nil]; exact h1),
    fun _ _ p hp => q p _ (fun b u e => by rw [upd_ne (ne_of_none e hp)]; exact e) (SqT.of upd_same)⟩
end
end Rd

namespace M23
variable {α : Type}
/-- the endless sequence of a lead and a turn -/
def sq (L T : List α) (i : Nat) : Option α := if i < L.length then L[i]? else T[(i - L.length) % T.length]?
def Prim (T : List α) : Prop := ∀ k, 0 < k → k < T.length → ∃ i, sq [] T (i + k) ≠ sq [] T i
/-- normal form: the turn has no shorter period, the lead does not end as the turn -/
structure Nf (L T : List α) : Prop where
  ne : T ≠ []
  prim : Prim T
  last : L ≠ [] → L[L.length - 1]? ≠ T[T.length - 1]?
theorem sq_nil (T : List α) (i : Nat) : sq [] T i = T[i % T.length]? := rfl
theorem sq_lo {L T : List α} {i : Nat} (h : i < L.length) : sq L T i = L[i]? := if_pos h
theorem sq_hi {L T : List α} {i : Nat} (h : L.length ≤ i) : sq L T i = T[(i - L.length) % T.length]? := if_neg (by omega)
theorem sq_add {L T : List α} {i : Nat} : sq L T (L.length + i) = sq [] T i := by
  rw [sq_hi (by omega), sq_nil, Nat.add_sub_cancel_left]
theorem sq_per {L T : List α} {i : Nat} (h : L.length ≤ i) : sq L T (i + T.length) = sq L T i := by
  rw [sq_hi h, sq_hi (by omega), show i + T.length - L.length = i - L.length + T.length by omega, Nat.add_mod_right]
theorem sq_perN {L T : List α} {i : Nat} (h : L.length ≤ i) : ∀ n, sq L T (i + n * T.length) = sq L T i
  | 0 => by rw [Nat.zero_mul, Nat.add_zero]
  | n + 1 => by rw [Nat.succ_mul, ← Nat.add_assoc, sq_per (by omega), sq_perN h n]
theorem len_pos {T : List α} (h : T ≠ []) : 0 < T.length := List.length_pos_iff.mpr h
theorem per_le {L T L' T' : List α} (h' : Nf L' T') (hT : T ≠ []) (e : ∀ i, sq L T i = sq L' T' i) : T'.length ≤ T.length := by
  refine Nat.le_of_not_lt fun lt => ?_
  obtain ⟨i, hi⟩ := h'.prim T.length (len_pos hT) lt
  refine hi ?_
  have p := len_pos h'.ne
  have big : L.length ≤ i + L.length * T'.length := Nat.le_trans (Nat.le_mul_of_pos_right _ p) (Nat.le_add_left _ _)
  have e1 : sq [] T' (i + T.length) = sq L T (L'.length + (i + T.length + L.length * T'.length)) := by
    rw [e, sq_add, sq_perN (Nat.zero_le _)]
  have e2 : sq [] T' i = sq L T (L'.length + (i + L.length * T'.length)) := by
    rw [e, sq_add, sq_perN (Nat.zero_le _)]
  rw [e1, e2, show L'.length + (i + T.length + L.length * T'.length) = L'.length + (i + L.length * T'.length) + T.length by omega, sq_per (by omega)]
theorem lead_le {L T L' T' : List α} (h' : Nf L' T') (hT : T ≠ []) (hl : T.length = T'.length) (e : ∀ i, sq L T i = sq L' T' i) : L'.length ≤ L.length := by
  refine Nat.le_of_not_lt fun lt => ?_
  have n : L' ≠ [] := fun z => by rw [z] at lt; exact absurd lt (Nat.not_lt_zero _)
  refine h'.last n ?_
  have p := len_pos h'.ne
  have e1 := e (L'.length - 1)
  rw [sq_lo (L := L') (by omega)] at e1
  have e2 := e (L'.length - 1 + T.length)
  rw [sq_per (by omega), sq_hi (L := L') (by omega), show L'.length - 1 + T.length - L'.length = T'.length - 1 by omega, Nat.mod_eq_of_lt (by omega)] at e2
  rw [← e1, ← e2]
theorem nf_len {L T L' T' : List α} (h : Nf L T) (h' : Nf L' T') (e : ∀ i, sq L T i = sq L' T' i) : L.length = L'.length ∧ T.length = T'.length := by
  have t : T.length = T'.length := Nat.le_antisymm (per_le h h'.ne fun i => (e i).symm) (per_le h' h.ne e)
  exact ⟨Nat.le_antisymm (lead_le h h'.ne t.symm fun i => (e i).symm) (lead_le h' h.ne t e), t⟩
/-- a sequence has one normal form -/
theorem nf_one {L T L' T' : List α} (h : Nf L T) (h' : Nf L' T') (e : ∀ i, sq L T i = sq L' T' i) : L = L' ∧ T = T' := by
  obtain ⟨l, t⟩ := nf_len h h' e
  refine ⟨List.ext_getElem? fun i => ?_, List.ext_getElem? fun i => ?_⟩
  · by_cases hi : i < L.length
    · have z := e i
      rwa [sq_lo hi, sq_lo (by omega)] at z
    · rw [List.getElem?_eq_none (by omega), List.getElem?_eq_none (by omega)]
  · by_cases hi : i < T.length
    · have z := e (L.length + i)
      rw [sq_add, l, sq_add, sq_nil, sq_nil, Nat.mod_eq_of_lt hi, Nat.mod_eq_of_lt (by omega)] at z
      exact z
    · rw [List.getElem?_eq_none (by omega), List.getElem?_eq_none (by omega)]
/-! ### the shortest turn -/
def rep (n : Nat) (t : List α) : List α := (List.replicate n t).flatten
theorem rep_len (n : Nat) (t : List α) : (rep n t).length = n * t.length := by
  induction n with
  | zero => simp [rep]
  | succ n ih => rw [rep, List.replicate_succ, List.flatten_cons, List.length_append]; rw [rep] at ih; rw [ih, Nat.succ_mul, Nat.add_comm]
theorem rep_at (t : List α) : ∀ (n i : Nat), i < n * t.length → (rep n t)[i]? = t[i % t.length]?
  | 0, i, h => by rw [Nat.zero_mul] at h; exact absurd h (Nat.not_lt_zero _)
  | n + 1, i, h => by
    rw [rep, List.replicate_succ, List.flatten_cons]
    by_cases hi : i < t.length
    · rw [List.getElem?_append_left hi, Nat.mod_eq_of_lt hi]
    · rw [List.getElem?_append_right (by omega)]
      rw [Nat.succ_mul] at h
      have z := rep_at t n (i - t.length) (by omega)
      rw [rep] at z
      rw [z, Nat.mod_eq_sub_mod (by omega : i ≥ t.length)]
theorem rep_sq {n : Nat} (hn : 0 < n) (t : List α) (i : Nat) : sq [] (rep n t) i = sq [] t i := by
  rw [sq_nil, sq_nil]
  by_cases ht : t = []
  · subst ht
    have z : rep n ([] : List α) = [] := List.length_eq_zero_iff.mp (by rw [rep_len]; rfl)
    rw [z]
  have p := len_pos ht
  have q : 0 < n * t.length := Nat.mul_pos hn p
  rw [rep_len, rep_at _ _ _ (Nat.mod_lt _ q), Nat.mod_mul_left_mod]
theorem take_at {t : List α} {k i : Nat} (h : i < k) : (t.take k)[i]? = t[i]? := List.getElem?_take_of_lt h
/-- a period that parts the turn -/
theorem per_rep {T : List α} {g : Nat} (g0 : 0 < g) (dv : T.length % g = 0) (hp : ∀ i, sq [] T (i + g) = sq [] T i) : rep (T.length / g) (T.take g) = T := by
  have m : T.length / g * g = T.length := Nat.div_mul_cancel (Nat.dvd_of_mod_eq_zero dv)
  by_cases hT : T = []
  · subst hT; simp [rep]
  have lp := len_pos hT
  have gl : g ≤ T.length := Nat.le_of_dvd lp (Nat.dvd_of_mod_eq_zero dv)
  have tl : (T.take g).length = g := by rw [List.length_take]; omega
  refine List.ext_getElem? fun i => ?_
  by_cases hi : i < T.length
  · rw [rep_at _ _ _ (by rw [tl, m]; exact hi), tl, take_at (Nat.mod_lt _ g0)]
    have z : ∀ n j, sq [] T (j + n * g) = sq [] T j := by
      intro n
      induction n with
      | zero => intro j; rw [Nat.zero_mul, Nat.add_zero]
      | succ n ih => intro j; rw [Nat.succ_mul, ← Nat.add_assoc, hp, ih]
    have y := z (i / g) (i % g)
    rw [Nat.mod_add_div' i g, sq_nil, sq_nil, Nat.mod_eq_of_lt hi, Nat.mod_eq_of_lt (by have := Nat.mod_lt i g0; omega)] at y
    exact y.symm
  · rw [List.getElem?_eq_none (by rw [rep_len, tl, m]; omega), List.getElem?_eq_none (by omega)]
theorem sub_per {f : Nat → Option α} {a b : Nat} (ha : ∀ i, f (i + a) = f i) (hb : ∀ i, f (i + b) = f i) (h : b ≤ a) (i : Nat) : f (i + (a - b)) = f i := by
  rw [← hb (i + (a - b)), show i + (a - b) + b = i + a by omega, ha]
theorem mod_per {f : Nat → Option α} {a b : Nat} (ha : ∀ i, f (i + a) = f i) (hb : ∀ i, f (i + b) = f i) (b0 : 0 < b) : ∀ i, f (i + a % b) = f i := by
  have mul : ∀ n i, f (i + n * b) = f i := by
    intro n
    induction n with
    | zero => intro i; rw [Nat.zero_mul, Nat.add_zero]
    | succ n ih => intro i; rw [Nat.succ_mul, ← Nat.add_assoc, hb, ih]
  intro i
  have d : a % b + a / b * b = a := Nat.mod_add_div' a b
  rw [← mul (a / b) (i + a % b), Nat.add_assoc, d, ha]
theorem gcd_per {f : Nat → Option α} : ∀ (n a b : Nat), a + b ≤ n → (∀ i, f (i + a) = f i) → (∀ i, f (i + b) = f i) → ∀ i, f (i + Nat.gcd a b) = f i := by
  intro n
  induction n with
  | zero =>
    intro a b h ha hb
    obtain rfl : a = 0 := by omega
    obtain rfl : b = 0 := by omega
    exact ha
  | succ n ih =>
    intro a b h ha hb
    by_cases a0 : a = 0
    · subst a0
      rw [Nat.gcd_zero_left]
      exact hb
    · have ap : 0 < a := Nat.pos_of_ne_zero a0
      rw [Nat.gcd_rec]
      by_cases hl : b < a
      · rw [Nat.mod_eq_of_lt hl]
        by_cases b0 : b = 0
        · subst b0; rw [Nat.gcd_zero_left]; exact ha
        · rw [Nat.gcd_comm, Nat.gcd_comm, Nat.gcd_rec, Nat.gcd_comm]
          have := Nat.mod_lt a (Nat.pos_of_ne_zero b0)
          have e := ih b (a % b) (by omega) hb (mod_per ha hb (Nat.pos_of_ne_zero b0))
          exact e
      · have := Nat.mod_lt b ap
        exact ih (b % a) a (by omega) (mod_per hb ha ap) ha
/-- where no shorter part gives the turn, it has no shorter period -/
theorem prim_of {T : List α} (h : ∀ j, 0 < j → j < T.length → T.length % j = 0 → rep (T.length / j) (T.take j) ≠ T) : Prim T := by
  intro k k0 kl
  refine Classical.byContradiction fun n => ?_
  have hp : ∀ i, sq [] T (i + k) = sq [] T i := fun i => Classical.byContradiction fun z => n ⟨i, z⟩
  have g0 : 0 < Nat.gcd k T.length := Nat.gcd_pos_of_pos_left _ k0
  have gp := gcd_per _ k T.length (Nat.le_refl _) hp (fun i => sq_per (L := []) (Nat.zero_le _))
  refine h _ g0 (Nat.lt_of_le_of_lt (Nat.gcd_le_left _ k0) kl) (Nat.mod_eq_zero_of_dvd (Nat.gcd_dvd_right _ _)) (per_rep g0 (Nat.mod_eq_zero_of_dvd (Nat.gcd_dvd_right _ _)) gp)
/-- the first part that gives the turn -/
def Sh (T : List α) (k : Nat) : Prop := 0 < k ∧ k ≤ T.length ∧ rep (T.length / k) (T.take k) = T ∧ ∀ j, 0 < j → j < k → rep (T.length / j) (T.take j) ≠ T
theorem Sh.div {T : List α} {k : Nat} (h : Sh T k) : T.length / k * k = T.length := by
  have z := congrArg List.length h.2.2.1
  rw [rep_len, List.length_take, Nat.min_eq_left h.2.1] at z
  exact z
theorem Sh.sq {T : List α} {k : Nat} (h : Sh T k) (i : Nat) : sq [] (T.take k) i = sq [] T i := by
  have n0 : 0 < T.length / k := Nat.div_pos h.2.1 h.1
  have z := rep_sq n0 (T.take k) i
  rw [h.2.2.1] at z
  exact z.symm
theorem Sh.len {T : List α} {k : Nat} (h : Sh T k) : (T.take k).length = k := by rw [List.length_take, Nat.min_eq_left h.2.1]
theorem Sh.ne {T : List α} {k : Nat} (h : Sh T k) : T.take k ≠ [] := fun z => by
  have := h.len
  rw [z] at this
  exact absurd this (Nat.ne_of_lt h.1)
theorem Sh.prim {T : List α} {k : Nat} (h : Sh T k) : Prim (T.take k) := by
  have kl := h.len
  refine prim_of fun j j0 jl dv e => ?_
  rw [kl] at jl dv e
  refine h.2.2.2 j j0 jl ?_
  have hj : ∀ i, M23.sq [] T (i + j) = M23.sq [] T i := fun i => by
    have n0 : 0 < k / j := Nat.div_pos (Nat.le_of_lt jl) j0
    have tt : (T.take k).take j = T.take j := by rw [List.take_take, Nat.min_eq_left (Nat.le_of_lt jl)]
    rw [tt] at e
    have lj : (T.take j).length = j := by rw [List.length_take]; have := h.2.1; omega
    have a : ∀ i, M23.sq [] T i = M23.sq [] (T.take j) i := fun i => by rw [← h.sq, ← rep_sq n0 (T.take j), e]
    rw [a, a]
    have z := sq_per (L := []) (T := T.take j) (i := i) (Nat.zero_le _)
    rwa [lj] at z
  refine per_rep j0 ?_ hj
  have d1 : k ∣ T.length := ⟨T.length / k, by rw [Nat.mul_comm]; exact h.div.symm⟩
  exact Nat.mod_eq_zero_of_dvd (Nat.dvd_trans (Nat.dvd_of_mod_eq_zero dv) d1)
/-! ### moved on, moved back -/
def rot (k : Nat) (T : List α) : List α := T.drop k ++ T.take k
theorem rot_len {k : Nat} {T : List α} : (rot k T).length = T.length := by
  rw [rot, List.length_append, List.length_drop, List.length_take]; omega
theorem rot_at {k : Nat} {T : List α} (hk : k ≤ T.length) (hT : T ≠ []) (i : Nat) : sq [] (rot k T) i = sq [] T (i + k) := by
  have p := len_pos hT
  rw [sq_nil, sq_nil, rot_len]
  have m := Nat.mod_lt i p
  have e : (i + k) % T.length = (i % T.length + k) % T.length := (Nat.mod_add_mod i T.length k).symm
  rw [e]
  generalize i % T.length = j at m
  rw [rot]
  by_cases hj : j < T.length - k
  · rw [List.getElem?_append_left (by rw [List.length_drop]; exact hj), List.getElem?_drop, Nat.add_comm, Nat.mod_eq_of_lt (by omega)]
  · rw [List.getElem?_append_right (by rw [List.length_drop]; omega), List.length_drop, take_at (by omega), show (j + k) % T.length = j - (T.length - k) by
      rw [show j + k = j - (T.length - k) + T.length by omega, Nat.add_mod_right, Nat.mod_eq_of_lt (by omega)]]
theorem rot_ne {k : Nat} {T : List α} (hT : T ≠ []) : rot k T ≠ [] := fun z => by
  have := rot_len (k := k) (T := T)
  rw [z] at this
  exact absurd this (Nat.ne_of_lt (len_pos hT))
theorem rot_prim {k : Nat} {T : List α} (hk : k ≤ T.length) (hT : T ≠ []) (h : Prim T) : Prim (rot k T) := by
  intro j j0 jl
  rw [rot_len] at jl
  obtain ⟨i, hi⟩ := h j j0 jl
  refine ⟨i + (T.length - k), ?_⟩
  rw [rot_at hk hT, rot_at hk hT, show i + (T.length - k) + j + k = i + j + T.length by omega, show i + (T.length - k) + k = i + T.length by omega, sq_per (L := []) (Nat.zero_le _), sq_per (L := []) (Nat.zero_le _)]
  exact hi
/-- the program's way -/
theorem nf_prog {L S T : List α} {m r : Nat} (hS : S ≠ []) (hp : Prim S) (hsq : ∀ i, sq [] S i = sq [] T i) (hm : m ≤ L.length) (hr : r < S.length) (hrm : (r + m) % S.length = 0)
    (all : ∀ j, j < m → L[L.length - 1 - j]? = S[S.length - 1 - j % S.length]?) (stop : m < L.length → L[L.length - 1 - m]? ≠ S[S.length - 1 - m % S.length]?) :
    Nf (L.take (L.length - m)) (rot r S) ∧ ∀ i, sq (L.take (L.length - m)) (rot r S) i = sq L T i := by
  have n0 := len_pos hS
  have tl : (L.take (L.length - m)).length = L.length - m := by rw [List.length_take]; omega
  have md : ∀ a b : Nat, a % S.length = b % S.length → sq [] S a = sq [] S b := fun a b h => by rw [sq_nil, sq_nil, h]
  have key : ∀ j, (S.length - 1 - j % S.length + (j + 1)) % S.length = 0 := fun j => by
    have a := Nat.mod_add_div' j S.length
    have b := Nat.mod_lt j n0
    rw [show S.length - 1 - j % S.length + (j + 1) = S.length + j / S.length * S.length by omega, Nat.add_mul_mod_self_right, Nat.mod_self]
  have cong : ∀ a b c : Nat, (a + c) % S.length = (b + c) % S.length → a % S.length = b % S.length := fun a b c h => by
    have e := congrArg (fun x => (x + (S.length - c % S.length)) % S.length) h
    simp only [Nat.mod_add_mod] at e
    have d := Nat.mod_add_div' c S.length
    have b := Nat.mod_lt c n0
    have z : ∀ x, (x + c + (S.length - c % S.length)) % S.length = x % S.length := fun x => by
      rw [show x + c + (S.length - c % S.length) = x + (c / S.length + 1) * S.length by rw [Nat.succ_mul]; omega, Nat.add_mul_mod_self_right]
    rwa [z, z] at e
  refine ⟨⟨rot_ne hS, rot_prim (Nat.le_of_lt hr) hS hp, fun hn => ?_⟩, fun i => ?_⟩
  · have hl := len_pos hn
    rw [tl] at hl ⊢
    have st := stop (by omega)
    rw [take_at (by omega), show L.length - m - 1 = L.length - 1 - m by omega, rot_len]
    have e := rot_at (Nat.le_of_lt hr) hS (S.length - 1)
    rw [sq_nil, rot_len, Nat.mod_eq_of_lt (by omega)] at e
    rw [e]
    have e2 : sq [] S (S.length - 1 + r) = sq [] S (S.length - 1 - m % S.length) := md _ _ (cong _ _ (m + 1) (by
      rw [key m, show S.length - 1 + r + (m + 1) = r + m + S.length by omega, Nat.add_mod_right, hrm]))
    rw [e2, sq_nil, Nat.mod_eq_of_lt (by omega)]
    exact st
  · by_cases h : i < L.length - m
    · rw [sq_lo (by rw [tl]; exact h), sq_lo (by omega), take_at h]
    · rw [show i = (L.take (L.length - m)).length + (i - (L.length - m)) by rw [tl]; omega, sq_add, rot_at (Nat.le_of_lt hr) hS, tl, show L.length - m + (i - (L.length - m)) = i by omega]
      by_cases h2 : i < L.length
      · rw [sq_lo h2]
        have a := all (L.length - 1 - i) (by omega)
        rw [show L.length - 1 - (L.length - 1 - i) = i by omega] at a
        rw [a]
        have e2 : sq [] S (i - (L.length - m) + r) = sq [] S (S.length - 1 - (L.length - 1 - i) % S.length) := md _ _ (cong _ _ (L.length - 1 - i + 1) (by
          rw [key, show i - (L.length - m) + r + (L.length - 1 - i + 1) = r + m by omega, hrm]))
        rw [e2, sq_nil, Nat.mod_eq_of_lt (by omega)]
      · rw [sq_hi (by omega : L.length ≤ i)]
        have e : T[(i - L.length) % T.length]? = sq [] T (i - L.length) := rfl
        rw [e, ← hsq]
        refine md _ _ ?_
        rw [show i - (L.length - m) + r = i - L.length + (r + m) by omega, Nat.add_mod, hrm, Nat.add_zero, Nat.mod_mod]
/-- one turn of the law's way -/
theorem nf_step {A S : List α} (hA : A ≠ []) (hS : S ≠ []) (e : A[A.length - 1]? = S[S.length - 1]?) (i : Nat) : sq (A.take (A.length - 1)) (rot (S.length - 1) S) i = sq A S i := by
  have n0 := len_pos hS
  have a0 := len_pos hA
  have tl : (A.take (A.length - 1)).length = A.length - 1 := by rw [List.length_take]; omega
  by_cases h : i < A.length - 1
  · rw [sq_lo (by rw [tl]; exact h), sq_lo (by omega), take_at h]
  · rw [show i = (A.take (A.length - 1)).length + (i - (A.length - 1)) by rw [tl]; omega, sq_add, rot_at (by omega) hS, tl, show A.length - 1 + (i - (A.length - 1)) = i by omega]
    by_cases h2 : i < A.length
    · obtain rfl : i = A.length - 1 := by omega
      rw [sq_lo h2, e, Nat.sub_self, Nat.zero_add, sq_nil, Nat.mod_eq_of_lt (by omega)]
    · rw [sq_hi (by omega : A.length ≤ i), sq_nil, show i - (A.length - 1) + (S.length - 1) = i - A.length + S.length by omega, Nat.add_mod_right]
/-! ### other writings -/
theorem sq_app {L X T T' : List α} (h1 : ∀ i, i < X.length → X[i]? = sq [] T i) (h2 : ∀ i, sq [] T' i = sq [] T (i + X.length)) (i : Nat) : sq (L ++ X) T' i = sq L T i := by
  by_cases h : i < L.length
  · rw [sq_lo (by rw [List.length_append]; omega), sq_lo h, List.getElem?_append_left h]
  · by_cases g : i < L.length + X.length
    · rw [sq_lo (by rw [List.length_append]; omega), List.getElem?_append_right (by omega), h1 _ (by omega), sq_hi (by omega : L.length ≤ i), sq_nil]
    · rw [show i = (L ++ X).length + (i - (L.length + X.length)) by rw [List.length_append]; omega, sq_add, h2, List.length_append, show L.length + X.length + (i - (L.length + X.length)) = L.length + (i - (L.length + X.length) + X.length) by omega, sq_add]
theorem self_at {T : List α} {i : Nat} (h : i < T.length) : T[i]? = sq [] T i := by rw [sq_nil, Nat.mod_eq_of_lt h]
theorem w_rep {L T : List α} {n : Nat} (hn : 0 < n) (i : Nat) : sq L (rep n T) i = sq L T i := by
  have z := sq_app (L := L) (X := []) (T := T) (T' := rep n T) (fun i h => absurd h (Nat.not_lt_zero _)) (fun i => rep_sq hn T i) i
  rwa [List.append_nil] at z
theorem w_app {L T : List α} (i : Nat) : sq (L ++ T) T i = sq L T i := sq_app (fun _ h => self_at h) (fun i => (sq_per (L := []) (Nat.zero_le _)).symm) i
theorem w_rot {L T : List α} {k : Nat} (hk : k ≤ T.length) (hT : T ≠ []) (i : Nat) : sq (L ++ T.take k) (rot k T) i = sq L T i :=
  sq_app (fun i h => by
    rw [List.length_take] at h
    rw [take_at (by omega), self_at (by omega)]) (fun i => by rw [rot_at hk hT, List.length_take, Nat.min_eq_left hk]) i
theorem w_far {L T : List α} {k n q : Nat} (hq : 0 < q) (hk : k ≤ T.length) (hT : T ≠ []) (i : Nat) : sq (L ++ (rep n T ++ T.take k)) (rep q (rot k T)) i = sq L T i := by
  rw [w_rep hq]
  refine sq_app (fun i h => ?_) (fun i => ?_) i
  · rw [List.length_append, List.length_take, rep_len] at h
    by_cases g : i < n * T.length
    · rw [List.getElem?_append_left (by rw [rep_len]; exact g), rep_at _ _ _ g, sq_nil]
    · rw [List.getElem?_append_right (by rw [rep_len]; omega), rep_len, take_at (by omega), self_at (by omega), ← sq_perN (L := []) (Nat.zero_le _) n, show i - n * T.length + n * T.length = i by omega]
  · rw [rot_at hk hT, List.length_append, rep_len, List.length_take, Nat.min_eq_left hk, show i + (n * T.length + k) = i + k + n * T.length by omega, sq_perN (L := []) (Nat.zero_le _)]
/-- what is behind so many names -/
theorem w_drop {L T : List α} {k : Nat} (hk : k ≤ L.length) (i : Nat) : sq (L.drop k) T i = sq L T (i + k) := by
  by_cases h : i + k < L.length
  · rw [sq_lo h, sq_lo (by rw [List.length_drop]; omega), List.getElem?_drop, Nat.add_comm]
  · rw [sq_hi (by omega : L.length ≤ i + k), sq_hi (by rw [List.length_drop]; omega), List.length_drop, show i - (L.length - k) = i + k - L.length by omega]
theorem w_behind {L T : List α} {k r : Nat} (hk : L.length ≤ k) (hT : T ≠ []) (hr : r = (k - L.length) % T.length) (i : Nat) : sq [] (rot r T) i = sq L T (i + k) := by
  subst hr
  have p := len_pos hT
  have l := Nat.mod_lt (k - L.length) p
  rw [rot_at (Nat.le_of_lt l) hT, sq_hi (by omega : L.length ≤ i + k), sq_nil, show i + k - L.length = i + (k - L.length) by omega, Nat.add_mod_mod]
end M23

namespace K23
open PySem PySem.Spec PyProof.Rows L2
local macro_rules | `(tactic| walk_at "rd1") => `(tactic| first
  | (with_reducible refine Rd.seq ?_) | (with_reducible refine Rd.asg ?_) | (with_reducible refine Rd.ret ?_) | (with_reducible refine Rd.nxt ?_) | (with_reducible refine Rd.ifS ?_)
  | (with_reducible refine Rd.op ?_) | (with_reducible refine Rd.un ?_) | (with_reducible refine Rd.cb ?_) | (with_reducible refine Rd.cons ?_) | (with_reducible refine Rd.nil ?_) | (with_reducible refine Rd.ifx ?_)
  | (with_reducible refine Rd.test ?_) | (with_reducible refine Rd.testB ?_) | (with_reducible refine Rd.notT ?_) | (with_reducible refine Rd.isB ?_) | (with_reducible refine Rd.lst ?_) | (with_reducible refine Rd.tup ?_)
  | (with_reducible refine Rd.call ?_) | (with_reducible refine Rd.asgG ?_) | (with_reducible refine Rd.gNm ?_) | (with_reducible refine Rd.gSb ?_) | (with_reducible refine Rd.gC ?_) | (with_reducible refine Rd.gN ?_)
  | ((with_reducible refine' Rd.var ?hv ?_); (case hv => exact rfl)) | (with_reducible refine Rd.c ?_) | (with_reducible refine Rd.i0 ?_) | (with_reducible refine Rd.neg ?_)
  | ((with_reducible refine' Rd.iC ?hc ?_); (case hc => first | (show (0 : Int) < _; decide) | exact ⟨by decide, by decide⟩ | exact ⟨by decide, by decide, by decide⟩ | exact .inl ⟨by decide, by decide⟩ | exact .inr ⟨by decide, by decide⟩ | exact .inl ⟨by omega, by omega⟩ | (show (0 : Int) < _; omega) | exact ⟨by omega, by omega⟩))
  | ((with_reducible refine' Rd.eqS ?hc ?_); (case hc => rfl)) | ((with_reducible refine' Rd.neS ?hc ?_); (case hc => rfl)))
local macro_rules | `(tactic| walk_at "rd") => `(tactic| repeat walk_at "rd1")
/-! the places of the rows at the text's top (another commit: other places) -/
abbrev iBetween : Nat := 3
abbrev iIsList : Nat := 4
abbrev iIsName : Nat := 5
abbrev iFill : Nat := 21
abbrev iCheck : Nat := 22
abbrev iShort : Nat := 13
abbrev iMany : Nat := 14
abbrev iMoved : Nat := 15
abbrev iNf : Nat := 16
abbrev iTold : Nat := 17
abbrev iToldF : Nat := 25
abbrev iRead : Nat := 24
abbrev iPot : Nat := 27
abbrev iDraw : Nat := 28
abbrev iPick : Nat := 29
abbrev iTaken : Nat := 30
abbrev iNormal : Nat := 31
abbrev iAt : Nat := 32
abbrev iBehind : Nat := 33
abbrev iText : Nat := 34
abbrev iIs : Nat := 35
abbrev iNames : Nat := 36
abbrev iDrawn : Nat := 37
abbrev iRight : Nat := 38
abbrev iLaw : Nat := 39
def topA (i : Nat) : Stmt := PySem.Challenge.pw_belowneeds_k23_whole_fills.main.body.getD i (.Pass ⟨0, 0, 0, 0⟩)
abbrev sPot : Stmt := topA iPot
abbrev sDraw : Stmt := topA iDraw
abbrev sPick : Stmt := topA iPick
abbrev FnP (K : PySem.W.Frag) (x : Str) (st : Stmt) (f : Addr) (fd : FuncData) : Prop := FunD K x x (defArgs st) (defBody st) (defScope st) [] [] f fd
/-- all but p as it was -/
def But (p : Addr) (H H' : Hp) : Prop := ∀ b o, b ≠ p → H b = some o → H' b = some o
theorem But.refl {p : Addr} {H : Hp} : But p H H := fun _ _ _ h => h
theorem But.trans {p : Addr} {H H1 H2 : Hp} (a : But p H H1) (b : But p H1 H2) : But p H H2 := fun c o h e => b c o h (a c o h e)
theorem But.new {p q : Addr} {H : Hp} {o : HO} (h : H q = none) : But p H (upd H q o) := fun b u _ e => by rw [upd_ne (ne_of_none e h)]; exact e
theorem But.set {p : Addr} {H : Hp} {o : HO} : But p H (upd H p o) := fun b u hb e => by rw [upd_ne hb]; exact e
/-- a pot of numbers that are left to be drawn -/
def PotAt (H : Hp) (p : Addr) : Prop := ∃ x y : Int, H p = some (.lst [.int x, .int y]) ∧ 0 ≤ x ∧ 0 ≤ y ∧ y < 2147483648
/-! ### promises -/
def spPot (K : PySem.W.Frag) : Sp := fun vs H Q _ => ∃ (a : Addr) (ns : List Int) (k : Nat), vs = [.ref a, .int k] ∧ SqL K H a (ns.map V.int) ∧ ns.length ≤ 63 ∧ k < 1000 ∧ ∀ p H', H p = none → Same H H' → PotAt H' p → Q (.ref p) H'
def spDraw : Sp := fun vs H Q _ => ∃ (p : Addr) (m : Int), vs = [.ref p, .int m] ∧ PotAt H p ∧ 0 < m ∧ m < 2 ^ 2000 ∧ ∀ (d : Int) H', 0 ≤ d → d < m → PotAt H' p → But p H H' → Q (.int d) H'
def spPick (K : PySem.W.Frag) : Sp := fun vs H Q _ => ∃ (p l : Addr) (xs : List V), vs = [.ref p, .ref l] ∧ PotAt H p ∧ H l = some (.lst xs) ∧ l ≠ p ∧ xs ≠ [] ∧ xs.length < 1000000 ∧ ∀ v H', v ∈ xs → PotAt H' p → But p H H' → Q v H'
section
variable {P : Program} {w : World} {K : PySem.W.Frag} {mg : Str → Option Value} {base : Heap} {f fP fD : Addr} {fd fdP fdD : FuncData}
theorem scPot : FnScope ["_law_script", "_law_k", "_law_cell"] ["_law_script", "_law_k"] (defScope sPot) := ⟨rfl, rfl, rfl, by decide +kernel, rfl, by decide +kernel, by decide +kernel⟩
theorem ok_pot (F : FnP K "_law_pot" sPot f fd) (gLen : mg "len" = none) (gAbs : mg "abs" = none) (gMax : mg "max" = none) (gInt : mg "int" = none) : FnOk P w K mg base CX0 1 f fd ["_law_script", "_law_k"] (spPot K) := by
  refine F.ok scPot (fun vs H Q E h => ?_) (fun cdv A outer s H vs Q E hr h => ?_)
  · obtain ⟨a, ns, k, rfl, _⟩ := h
    rfl
  · obtain ⟨a, ns, k, rfl, hS, hl, k1, q⟩ := h
    refine ⟨_, PSs.nox (pss_cons (ps_set (i := 2) scPot.nd rfl (Or.inl rfl) (pe_ifExp (pt_cmpR op_lt (pv 1) (pe_callB call_len rfl gLen boot_len (pa_cons (pv 0) pa_nil)) (nomark _))
        (pe_callB call_abs rfl gAbs boot_abs (pa_cons (pe_ix ix_list (pv 0) (pv 1) (fun _ _ => rfl)) pa_nil)) (pe_op op_add (pe_op op_mul pe_int (pv 1)) pe_int)))
      (pss_one (ps_ret (pe_lst (pa_cons (pe_callB (call_max2 rfl) rfl gMax boot_max (pa_cons pe_int (pa_cons (pe_op op_sub (pv 2) (pe_op op_pow pe_int pe_int)) pa_nil)))
        (pa_cons (pe_op op_add (pe_op op_mod (pe_callTy call_int1 rfl gInt boot_int (pa_cons (pe_op op_add (pe_op op_add (pe_op op_mul (pe_op op_mod (pe_callTy call_int1 rfl gInt boot_int (pa_cons (pv 2) pa_nil)) pe_int) pe_int) (pe_op op_mul pe_int (pv 1))) pe_int) pa_nil)) pe_int) pe_int) pa_nil)))))), ?_⟩
    walk_at "rd"
    refine ⟨_, _, rfl, .inl ⟨_, hS, rfl⟩, ?_⟩
    walk_at "rd"
    have hz : ∀ z : Int, 0 ≤ (if z < 0 then -z else z) := fun z => by split <;> omega
    refine Rd.ifB (fun ht => ?_) (fun ht => ?_)
    · have hk : k < ns.length := by
        have z := of_decide_eq_true ht
        rw [List.length_map] at z
        omega
      walk_at "rd"
      refine ⟨a, _, (k : Int), V.int ns[k], rfl, rfl, hS, atI_nat (by rw [List.getElem?_map, List.getElem?_eq_getElem hk]; rfl), ?_⟩
      walk_at "rd"
      refine ⟨_, rfl, ?_⟩
      have hc := hz ns[k]
      generalize (if ns[k] < 0 then -ns[k] else ns[k]) = c at hc ⊢
      walk_at "rd"
      refine ⟨_, _, rfl, ?_⟩
      walk_at "rd"
      refine .inl ⟨_, rfl, ?_⟩
      walk_at "rd"
      refine .inl ⟨_, rfl, ?_⟩
      walk_at "rd"
      refine ⟨Rd.small (by show 2 ≤ 100000; decide), fun p hp => q p _ hp (fun b u e => by rw [upd_ne (ne_of_none e hp)]; exact e) ⟨_, _, upd_same, by split <;> omega, by omega, by omega⟩⟩
    · walk_at "rd"
      have hc : (0 : Int) ≤ 11 * (k : Int) + 6 := by omega
      generalize 11 * (k : Int) + 6 = c at hc ⊢
      refine ⟨_, _, rfl, ?_⟩
      walk_at "rd"
      refine .inl ⟨_, rfl, ?_⟩
      walk_at "rd"
      refine .inl ⟨_, rfl, ?_⟩
      walk_at "rd"
      refine ⟨Rd.small (by show 2 ≤ 100000; decide), fun p hp => q p _ hp (fun b u e => by rw [upd_ne (ne_of_none e hp)]; exact e) ⟨_, _, upd_same, by split <;> omega, by omega, by omega⟩⟩
theorem div_small {i m : Int} (h : 0 < m) (h2 : m < 2 ^ 2000) : CDivP i m := by
  refine ⟨h, ?_⟩
  have z : m.natAbs.log2 < 2000 := PySem.Flt.log2_lt_of (by decide) (by omega)
  show (decide ((if m == 0 then 0 else m.natAbs.log2 / 30 + 1) > 300) && _) = false
  rw [if_neg (show ¬ (m == 0) = true by simpa using (show m ≠ 0 by omega))]
  have k : ¬ (m.natAbs.log2 / 30 + 1 > 300) := by omega
  rw [decide_eq_false k]
  rfl
theorem scDraw : FnScope ["_law_pot_here", "_law_many", "_law_digit"] ["_law_pot_here", "_law_many"] (defScope sDraw) := ⟨rfl, rfl, rfl, by decide +kernel, rfl, by decide +kernel, by decide +kernel⟩
theorem ok_draw (F : FnP K "_law_draw" sDraw f fd) (gDiv : mg "divmod" = none) (gInt : mg "int" = none) : FnOk P w K mg base CX0 1 f fd ["_law_pot_here", "_law_many"] spDraw := by
  refine F.ok scDraw (fun vs H Q E h => ?_) (fun cdv A outer s H vs Q E hr h => ?_)
  · obtain ⟨p, m, rfl, _⟩ := h
    rfl
  · obtain ⟨p, m, rfl, ⟨x, y, hp, hx, hy, hy2⟩, m0, m1, q⟩ := h
    refine ⟨_, PSs.nox (pss_cons (ps_if (pt_cmpR op_gt (pe_ix ix_list (pv 0) pe_int (fun _ _ => rfl)) pe_int (nomark _))
        (pss_cons (ps_asg (pe_callB call_divmodW rfl gDiv boot_divmod (pa_cons (pe_ix ix_list (pv 0) pe_int (fun _ _ => rfl)) (pa_cons (pv 1) pa_nil)))
          (pg_tup rfl (pgs_cons (pg_sub (pv 0) pe_int set_list) (pgs_cons (pg_name (i := 2) scDraw.nd rfl (Or.inl rfl)) pgs_nil)))) (pss_one (ps_ret (pv 2)))) pss_nil)
      (pss_cons (ps_asg (pe_op op_mod (pe_callTy call_int1 rfl gInt boot_int (pa_cons (pe_op op_add (pe_op op_mul (pe_ix ix_list (pv 0) pe_int (fun _ _ => rfl)) pe_int) pe_int) pa_nil)) pe_int) (pg_sub (pv 0) pe_int set_list))
      (pss_one (ps_ret (pe_op op_mod (pe_callTy call_int1 rfl gInt boot_int (pa_cons (pe_op op_fdiv (pe_op op_mod (pe_callTy call_int1 rfl gInt boot_int (pa_cons (pe_op op_mul (pe_ix ix_list (pv 0) pe_int (fun _ _ => rfl)) (pe_ix ix_list (pv 0) pe_int (fun _ _ => rfl))) pa_nil)) pe_int) pe_int) pa_nil)) (pv 1)))))), ?_⟩
    walk_at "rd"
    refine Rd.ixL (SqL.of hp) (atI_nat (j := 0) rfl) ?_
    walk_at "rd"
    refine Rd.ifB (fun ht => ?_) (fun ht => ?_)
    · have hx0 : 0 < x := of_decide_eq_true ht
      walk_at "rd"
      refine Rd.ixL (SqL.of hp) (atI_nat (j := 0) rfl) ?_
      walk_at "rd"
      refine ⟨_, _, rfl, div_small m0 m1, fun t ht => ?_⟩
      have npt : p ≠ t := ne_of_none hp ht
      refine ⟨t, _, rfl, SqT.of upd_same, rfl, ?_⟩
      walk_at "rd"
      refine Rd.setL (xs := [.int x, .int y]) (j := 0) (by rw [upd_ne npt]; exact hp) rfl ?_
      walk_at "rd"
      refine q _ _ (Int.emod_nonneg _ (by omega)) (Int.emod_lt_of_pos _ m0) ⟨_, _, upd_same, Int.ediv_nonneg hx (by omega), hy, hy2⟩ ?_
      exact But.trans (But.new ht) But.set
    · walk_at "rd"
      refine Rd.ixL (SqL.of hp) (atI_nat (j := 1) rfl) ?_
      walk_at "rd"
      refine .inl ⟨_, rfl, ?_⟩
      walk_at "rd"
      refine Rd.setL (j := 1) hp rfl ?_
      walk_at "rd"
      have z0 : 0 ≤ (y * 39373 + 12227) % 2147483587 := by omega
      have z1 : (y * 39373 + 12227) % 2147483587 < 2147483587 := by omega
      generalize (y * 39373 + 12227) % 2147483587 = z at z0 z1 ⊢
      have hp2 : upd H p (.lst ([V.int x, V.int y].set 1 (V.int z))) p = some (.lst [.int x, .int z]) := upd_same
      refine Rd.ixL (SqL.of hp2) (atI_nat (j := 1) rfl) ?_
      walk_at "rd"
      refine Rd.ixL (SqL.of hp2) (atI_nat (j := 1) rfl) ?_
      walk_at "rd"
      refine .inl ⟨_, rfl, ?_⟩
      walk_at "rd"
      refine .inl ⟨_, rfl, ?_⟩
      walk_at "rd"
      exact q _ _ (Int.emod_nonneg _ (by omega)) (Int.emod_lt_of_pos _ m0) ⟨_, _, hp2, hx, z0, by omega⟩ But.set
theorem scPick : FnScope ["_law_pot_here", "_law_some"] ["_law_pot_here", "_law_some"] (defScope sPick) := ⟨rfl, rfl, rfl, by decide +kernel, rfl, by decide +kernel, by decide +kernel⟩
theorem ok_pick (F : FnP K "_law_pick" sPick f fd) (FD : FnP K "_law_draw" sDraw fD fdD) (gDraw : mg "_law_draw" = some (.ref fD)) (gLen : mg "len" = none) (gDiv : mg "divmod" = none) (gInt : mg "int" = none) : FnOk P w K mg base CX0 2 f fd ["_law_pot_here", "_law_some"] (spPick K) := by
  have GD : FnOk P w K mg base CX0 1 fD fdD ["_law_pot_here", "_law_many"] spDraw := ok_draw FD gDiv gInt
  have bD : Binds K fdD ["_law_pot_here", "_law_many"] [] := FD.bindsN fun _ _ _ _ _ _ us hl => match us, hl with | [_, _], _ => rfl
  refine F.ok scPick (fun vs H Q E h => ?_) (fun cdv A outer s H vs Q E hr h => ?_)
  · obtain ⟨p, l, xs, rfl, _⟩ := h
    rfl
  · obtain ⟨p, l, xs, rfl, hp, hl, nlp, hne, hz, q⟩ := h
    refine ⟨_, PSs.nox (pss_one (ps_ret (pe_ix ix_list (pv 1) (pe_call GD hr rfl gDraw FD.kp bD .nil pass0 (pa_cons (pv 0) (pa_cons (pe_callB call_len rfl gLen boot_len (pa_cons (pv 1) pa_nil)) pa_nil))) (fun _ _ => rfl)))), ?_⟩
    walk_at "rd"
    refine ⟨_, _, rfl, .inl ⟨_, SqL.of hl, rfl⟩, ?_⟩
    walk_at "rd"
    have h0 : 0 < xs.length := List.length_pos_iff.mpr hne
    refine ⟨p, _, rfl, hp, by omega, Int.lt_trans (show (xs.length : Int) < 1000000 by omega) (by decide +kernel), fun d H1 d0 d1 hp1 hb => ?_⟩
    obtain ⟨j, rfl⟩ := Int.eq_ofNat_of_zero_le d0
    have hj : j < xs.length := by omega
    refine Rd.ixL (SqL.of (hb l _ nlp hl)) (atI_nat (List.getElem?_eq_getElem hj)) ?_
    exact q _ _ (List.getElem_mem hj) hp1 hb
end
end K23

namespace K23
open PySem PySem.Spec PyProof.Rows L2
local macro_rules | `(tactic| walk_at "rd1") => `(tactic| first
  | (with_reducible refine Rd.seq ?_) | (with_reducible refine Rd.asg ?_) | (with_reducible refine Rd.ret ?_) | (with_reducible refine Rd.nxt ?_) | (with_reducible refine Rd.ifS ?_)
  | (with_reducible refine Rd.op ?_) | (with_reducible refine Rd.un ?_) | (with_reducible refine Rd.cb ?_) | (with_reducible refine Rd.cons ?_) | (with_reducible refine Rd.nil ?_) | (with_reducible refine Rd.ifx ?_)
  | (with_reducible refine Rd.test ?_) | (with_reducible refine Rd.testB ?_) | (with_reducible refine Rd.notT ?_) | (with_reducible refine Rd.isB ?_) | (with_reducible refine Rd.lst ?_) | (with_reducible refine Rd.tup ?_)
  | (with_reducible refine Rd.andV ?_) | (with_reducible refine Rd.orV ?_) | (with_reducible refine Rd.notV ?_) | (with_reducible refine Rd.andT ?_) | (with_reducible refine Rd.orT ?_) | (with_reducible refine Rd.chain ?_)
  | (with_reducible refine Rd.m0 ?_) | (with_reducible refine Rd.m1 ?_) | (with_reducible refine Rd.bm0 ?_) | (with_reducible refine Rd.bm ?_) | (with_reducible refine Rd.sl ?_) | (with_reducible refine Rd.part ?_) | (with_reducible refine Rd.part0 ?_) | (with_reducible refine Rd.isI ?_)
  | (with_reducible refine Rd.fmt ?_) | (with_reducible refine Rd.fmtRD ?_) | (with_reducible refine Rd.meth ?_) | (with_reducible refine Rd.make ?_) | (with_reducible refine Rd.prop ?_) | (with_reducible refine Rd.js ?_) | (with_reducible refine Rd.js0 ?_) | (with_reducible refine Rd.par ?_) | (with_reducible refine Rd.star ?_) | (with_reducible refine lcR1 ?_) | (with_reducible refine lcR2 ?_) | (with_reducible refine Rd.fld ?_) | (with_reducible refine Rd.sfld ?_) | (with_reducible refine Rd.expr ?_) | (with_reducible refine L2.isNR ?_) | (with_reducible refine L2.methI ?_) | (with_reducible refine Rd.forZ ?_)
  | (with_reducible refine Rd.forEA ?_) | (with_reducible refine Rd.forR1 ?_) | (with_reducible refine Rd.forR2 ?_) | (with_reducible refine Rd.forL ?_) | (with_reducible refine Rd.forT ?_)
  | (with_reducible refine Rd.call ?_) | (with_reducible refine Rd.asgG ?_) | (with_reducible refine Rd.gNm ?_) | (with_reducible refine Rd.gSb ?_) | (with_reducible refine Rd.gC ?_) | (with_reducible refine Rd.gN ?_)
  | ((with_reducible refine' Rd.var ?hv ?_); (case hv => exact rfl)) | (with_reducible refine Rd.c ?_) | (with_reducible refine Rd.i0 ?_) | (with_reducible refine Rd.neg ?_)
  | ((with_reducible refine' Rd.iC ?hc ?_); (case hc => first | (show (0 : Int) < _; decide) | exact ⟨by decide, by decide⟩ | exact ⟨by decide, by decide, by decide⟩ | exact .inl ⟨by decide, by decide⟩ | exact .inr ⟨by decide, by decide⟩ | exact .inl ⟨by omega, by omega⟩ | (show (0 : Int) < _; omega) | exact ⟨by omega, by omega⟩))
  | ((with_reducible refine' Rd.eqS ?hc ?_); (case hc => rfl)) | ((with_reducible refine' Rd.neS ?hc ?_); (case hc => rfl)))
local macro_rules | `(tactic| walk_at "rd") => `(tactic| repeat walk_at "rd1")
/-! ### names, and what holds them -/
def menu : List Str := ["a", "b", "item", "end", "zzzzzzzz", "plan", "kind", "ab"]
def reserved : List Str := ["if", "then", "else", "in", "here", "up", "down", "least", "most"]
structure Ok (l : List Str) : Prop where
  few : l.length ≤ 60
  all : ∀ x ∈ l, x ∈ menu
/-- a list or a tuple of these texts stands at a -/
def Sq (K : PySem.W.Frag) (H : Hp) (a : Addr) (l : List Str) : Prop := SqL K H a (l.map V.str) ∨ SqT K H a (l.map V.str)
theorem Sq.same {K : PySem.W.Frag} {H H' : Hp} {a : Addr} {l : List Str} (h : Sq K H a l) (e : Same H H') : Sq K H' a l := h.elim (fun h => .inl (h.ext e)) fun h => .inr (h.ext e)
theorem same_new {H : Hp} {q : Addr} {o : HO} (h : H q = none) : Same H (upd H q o) := fun b u e => by rw [upd_ne (ne_of_none e h)]; exact e
theorem seq_ty {K : PySem.W.Frag} {H : Hp} {a : Addr} {xs : List V} (h : SqT K H a xs) : TyX K H (.ref a) (.type "tuple") := by
  rcases h with h | ⟨o, its, n, h, hc, hd, _⟩
  · rcases h with h | ⟨o, h⟩
    · exact .base (.tup h)
    · exact .fTuple h
  · exact .kTuple h hc
theorem seqL_ty {K : PySem.W.Frag} {H : Hp} {a : Addr} {xs : List V} (h : SqL K H a xs) : TyX K H (.ref a) (.type "list") := by
  rcases h with h | ⟨o, its, n, h, hc, hd, _⟩
  · rcases h with h | ⟨o, h⟩
    · exact .base (.lst h)
    · exact .base (.frz h)
  · exact .kList h hc
abbrev sBetween : Stmt := topA iBetween
abbrev sIsList : Stmt := topA iIsList
abbrev sIsName : Stmt := topA iIsName
abbrev sCheck : Stmt := topA iCheck
def spBetween : Sp := fun vs H Q _ => ∃ v lo hi : Int, vs = [.int v, .int lo, .int hi] ∧ Q (.bl (decide (lo ≤ v) && decide (v ≤ hi))) H
def spIsList (K : PySem.W.Frag) : Sp := fun vs H Q _ => ∃ (a : Addr) (l : List Str), vs = [.ref a] ∧ Sq K H a l ∧ ∀ H', Same H H' → Q (.bl true) H'
def spIsName : Sp := fun vs H Q _ => ∃ x : Str, vs = [.str x] ∧ x ∈ menu ∧ Q (.bl true) H
section
variable {P : Program} {w : World} {K : PySem.W.Frag} {mg : Str → Option Value} {base : Heap} {f fP fD : Addr} {fd fdP fdD : FuncData}
theorem scBetween : FnScope ["value", "low", "high"] ["value", "low", "high"] (defScope sBetween) := ⟨rfl, rfl, rfl, by decide +kernel, rfl, by decide +kernel, by decide +kernel⟩
theorem ok_between (F : FnP K "is_between" sBetween f fd) (gIs : mg "isinstance" = none) (gInt : mg "int" = none) (gBool : mg "bool" = none) : FnOk P w K mg base CX0 1 f fd ["value", "low", "high"] spBetween := by
  refine F.ok scBetween (fun vs H Q E h => ?_) (fun cdv A outer s H vs Q E hr h => ?_)
  · obtain ⟨v, lo, hi, rfl, _⟩ := h
    rfl
  · obtain ⟨v, lo, hi, rfl, q⟩ := h
    refine ⟨_, PSs.nox (pss_one (ps_ret (pe_and (pe_callB call_isi rfl gIs (by decide +kernel) (pa_cons (pv 0) (pa_cons (pe_bltn rfl gInt (by decide +kernel) (v := .ty "int") rfl) pa_nil)))
      (pe_and (pe_not (pe_callB call_isi rfl gIs (by decide +kernel) (pa_cons (pv 0) (pa_cons (pe_bltn rfl gBool (by decide +kernel) (v := .ty "bool") rfl) pa_nil)))) (pe_one (pe_chain op_le op_le (pv 1) (pv 0) (pv 2))))))), ?_⟩
    walk_at "rd"
    refine Rd.isi (k := true) (.base (.int _)) (by decide +kernel) ?_
    refine Rd.isT rfl ?_
    walk_at "rd"
    refine Rd.isi (k := false) (.base (.int _)) (by decide +kernel) ?_
    refine ⟨_, rfl, ?_⟩
    refine Rd.isT rfl ?_
    walk_at "rd"
    refine Rd.ifB (fun h => ?_) (fun h => ?_)
    · walk_at "rd"
      rw [h, Bool.true_and] at q
      exact q
    · rw [h, Bool.false_and] at q
      exact q
theorem scIsList : FnScope ["value"] ["value"] (defScope sIsList) := ⟨rfl, rfl, rfl, by decide +kernel, rfl, by decide +kernel, by decide +kernel⟩
theorem ok_isList (F : FnP K "is_list" sIsList f fd) (gIs : mg "isinstance" = none) (gL : mg "list" = none) (gT : mg "tuple" = none) : FnOk P w K mg base CX0 1 f fd ["value"] (spIsList K) := by
  refine F.ok scIsList (fun vs H Q E h => ?_) (fun cdv A outer s H vs Q E hr h => ?_)
  · obtain ⟨a, l, rfl, _⟩ := h
    rfl
  · obtain ⟨a, l, rfl, hS, q⟩ := h
    refine ⟨_, PSs.nox (pss_one (ps_ret (pe_callB call_isiT rfl gIs (by decide +kernel) (pa_cons (pv 0) (pa_cons (pe_tup (pa_cons (pe_bltn rfl gL (by decide +kernel) (v := .ty "list") rfl) (pa_cons (pe_bltn rfl gT (by decide +kernel) (v := .ty "tuple") rfl) pa_nil))) pa_nil))))), ?_⟩
    walk_at "rd"
    refine ⟨Rd.small (by show 2 ≤ 100000; decide), fun p hp => ?_⟩
    walk_at "rd"
    have sm := same_new (o := HO.tup [V.ty "list", V.ty "tuple"]) hp
    rcases hS with hS | hS
    · exact ⟨_, p, [V.ty "list", V.ty "tuple"], .type "list", [.type "list", .type "tuple"], true, rfl, upd_same, .cons (.ty _) (.cons (.ty _) .nil), seqL_ty (hS.ext sm), kitAny_cons (b := true) (kit_ty (by decide +kernel)) (fun z => nomatch z) (fun _ => rfl), q _ sm⟩
    · exact ⟨_, p, [V.ty "list", V.ty "tuple"], .type "tuple", [.type "list", .type "tuple"], true, rfl, upd_same, .cons (.ty _) (.cons (.ty _) .nil), seq_ty (hS.ext sm), kitAny_cons (b := false) (kit_ty (by decide +kernel)) (fun _ => kitAny_cons (b := true) (kit_ty (by decide +kernel)) (fun z => nomatch z) (fun _ => rfl)) (fun z => nomatch z), q _ sm⟩
/-- what the text's top has written -/
structure Rs (K : PySem.W.Frag) (w : World) (mg : Str → Option Value) : Prop where
  rs : ∃ r, mg "RESERVED" = some (.ref r) ∧ (∃ es n, KDict K w r es n) ∧ ∀ x, x ∉ reserved → PySem.W.nsIn K r x = some none
structure Gs (K : PySem.W.Frag) (mg : Str → Option Value) : Prop where
  ln : ∃ t, mg "LONGEST_NAME" = some (.int 8 t)
  lr : ∃ t, mg "LAST_ROW" = some (.int (10 ^ 60) t)
  mf : ∃ t, mg "MOST_FIRST" = some (.int 2000 t)
theorem menu_ok : ∀ x ∈ menu, x.length ≤ 8 ∧ x ∉ reserved ∧ Txt.isascii x = true ∧ Txt.isalpha x = true ∧ Txt.islower x = true := by decide +kernel
theorem scIsName : FnScope ["value"] ["value"] (defScope sIsName) := ⟨rfl, rfl, rfl, by decide +kernel, rfl, by decide +kernel, by decide +kernel⟩
theorem ok_isName (F : FnP K "is_name" sIsName f fd) (T : Gs K mg) (R : Rs K w mg) (gIs : mg "isinstance" = none) (gStr : mg "str" = none) (gLen : mg "len" = none) : FnOk P w K mg base CX0 1 f fd ["value"] spIsName := by
  obtain ⟨r, gR, ⟨es, en, D⟩, hR⟩ := R.rs
  obtain ⟨tl, gL⟩ := T.ln
  refine F.ok scIsName (fun vs H Q E h => ?_) (fun cdv A outer s H vs Q E hr h => ?_)
  · obtain ⟨x, rfl, _⟩ := h
    rfl
  · obtain ⟨x, rfl, hx, q⟩ := h
    obtain ⟨m1, m2, m3, m4, m5⟩ := menu_ok x hx
    refine ⟨_, PSs.nox (pss_cons (ps_if (PW.pt (pw_or (pt_not (pt_val (pe_callB call_isi rfl gIs (by decide +kernel) (pa_cons (pv 0) (pa_cons (pe_bltn rfl gStr (by decide +kernel) (v := .ty "str") rfl) pa_nil)))))
        (pw_or (pt_cmpR op_gt (pe_callB call_len_str rfl gLen (by decide +kernel) (pa_cons (pv 0) pa_nil)) (pe_glob rfl gL (v := .int 8) ⟨_, rfl⟩) (nomark _)) (pw_or1 (pt_cmpR (op_in_kd D) (pv 0) (pe_glob rfl gR (v := .ref r) rfl) rfl)))))
        (pss_one (ps_ret pe_bl)) pss_nil)
      (pss_one (ps_ret (pe_and (pe_m0 PySem.F.slot_str_isalpha PySem.F.type_str_isalpha mt_isalpha (pv 0)) (pe_and (pe_m0 PySem.F.slot_str_islower PySem.F.type_str_islower mt_islower (pv 0)) (pe_one (pe_m0 PySem.F.slot_str_isascii PySem.F.type_str_isascii mt_isascii (pv 0)))))))), ?_⟩
    walk_at "rd"
    refine Rd.isi (k := true) (.base (.str _)) (by decide +kernel) ?_
    walk_at "rd"
    refine iteF ?_
    walk_at "rd"
    refine ⟨x, rfl, Nat.le_trans m1 (by decide), ?_⟩
    walk_at "rd"
    refine Rd.ifB (fun z => ?_) (fun _ => ?_)
    · have := of_decide_eq_true z
      omega
    walk_at "rd"
    refine ⟨x, _, rfl, rfl, hR x m2, ?_⟩
    refine ⟨_, rfl, ?_⟩
    refine iteF ?_
    walk_at "rd"
    refine ⟨⟨_, rfl⟩, x, rfl, rfl, trivial, ?_⟩
    refine Rd.isT m4 ?_
    walk_at "rd"
    refine ⟨⟨_, rfl⟩, x, rfl, rfl, trivial, ?_⟩
    refine Rd.isT m5 ?_
    walk_at "rd"
    refine ⟨⟨_, rfl⟩, x, rfl, rfl, trivial, ?_⟩
    rw [m3]
    exact q
end
end K23

namespace K23
open PySem PySem.Spec PyProof.Rows L2
local macro_rules | `(tactic| walk_at "rd1") => `(tactic| first
  | (with_reducible refine Rd.seq ?_) | (with_reducible refine Rd.asg ?_) | (with_reducible refine Rd.ret ?_) | (with_reducible refine Rd.nxt ?_) | (with_reducible refine Rd.ifS ?_)
  | (with_reducible refine Rd.op ?_) | (with_reducible refine Rd.un ?_) | (with_reducible refine Rd.cb ?_) | (with_reducible refine Rd.cons ?_) | (with_reducible refine Rd.nil ?_) | (with_reducible refine Rd.ifx ?_)
  | (with_reducible refine Rd.test ?_) | (with_reducible refine Rd.testB ?_) | (with_reducible refine Rd.notT ?_) | (with_reducible refine Rd.isB ?_) | (with_reducible refine Rd.lst ?_) | (with_reducible refine Rd.tup ?_)
  | (with_reducible refine Rd.andV ?_) | (with_reducible refine Rd.orV ?_) | (with_reducible refine Rd.notV ?_) | (with_reducible refine Rd.andT ?_) | (with_reducible refine Rd.orT ?_) | (with_reducible refine Rd.chain ?_)
  | (with_reducible refine Rd.m0 ?_) | (with_reducible refine Rd.m1 ?_) | (with_reducible refine Rd.bm0 ?_) | (with_reducible refine Rd.bm ?_) | (with_reducible refine Rd.sl ?_) | (with_reducible refine Rd.part ?_) | (with_reducible refine Rd.part0 ?_) | (with_reducible refine Rd.isI ?_)
  | (with_reducible refine Rd.fmt ?_) | (with_reducible refine Rd.fmtRD ?_) | (with_reducible refine Rd.meth ?_) | (with_reducible refine Rd.make ?_) | (with_reducible refine Rd.prop ?_) | (with_reducible refine Rd.js ?_) | (with_reducible refine Rd.js0 ?_) | (with_reducible refine Rd.par ?_) | (with_reducible refine Rd.star ?_) | (with_reducible refine lcR1 ?_) | (with_reducible refine lcR2 ?_) | (with_reducible refine Rd.fld ?_) | (with_reducible refine Rd.sfld ?_) | (with_reducible refine Rd.expr ?_) | (with_reducible refine L2.isNR ?_) | (with_reducible refine L2.methI ?_) | (with_reducible refine Rd.forZ ?_)
  | (with_reducible refine Rd.forEA ?_) | (with_reducible refine Rd.forR1 ?_) | (with_reducible refine Rd.forR2 ?_) | (with_reducible refine Rd.forL ?_) | (with_reducible refine Rd.forT ?_)
  | (with_reducible refine Rd.call ?_) | (with_reducible refine Rd.asgG ?_) | (with_reducible refine Rd.gNm ?_) | (with_reducible refine Rd.gSb ?_) | (with_reducible refine Rd.gC ?_) | (with_reducible refine Rd.gN ?_)
  | ((with_reducible refine' Rd.var ?hv ?_); (case hv => exact rfl)) | (with_reducible refine Rd.c ?_) | (with_reducible refine Rd.i0 ?_) | (with_reducible refine Rd.neg ?_)
  | ((with_reducible refine' Rd.iC ?hc ?_); (case hc => first | (show (0 : Int) < _; decide) | exact ⟨by decide, by decide⟩ | exact ⟨by decide, by decide, by decide⟩ | exact .inl ⟨by decide, by decide⟩ | exact .inr ⟨by decide, by decide⟩ | exact .inl ⟨by omega, by omega⟩ | (show (0 : Int) < _; omega) | exact ⟨by omega, by omega⟩))
  | ((with_reducible refine' Rd.eqS ?hc ?_); (case hc => rfl)) | ((with_reducible refine' Rd.neS ?hc ?_); (case hc => rfl)))
local macro_rules | `(tactic| walk_at "rd") => `(tactic| repeat walk_at "rd1")
theorem Sq.len {K : PySem.W.Frag} {H : Hp} {a : Addr} {l : List Str} (h : Sq K H a l) : LenV K (.ref a) H l.length := by
  rcases h with h | h
  · exact .inl ⟨_, h, by rw [List.length_map]⟩
  · exact .inr ⟨_, h, by rw [List.length_map]⟩
theorem at_map {l : List Str} {i : Nat} {v : V} (h : (l.map V.str)[i]? = some v) : ∃ x, l[i]? = some x ∧ x ∈ l ∧ v = .str x := by
  rw [List.getElem?_map] at h
  cases e : l[i]? with
  | none => rw [e] at h; cases h
  | some x =>
    rw [e] at h
    cases h
    exact ⟨x, rfl, List.mem_of_getElem? e, rfl⟩
def spCheck (K : PySem.W.Frag) : Sp := fun vs H Q _ => ∃ (a : Addr) (l : List Str) (x : Str) (n : Nat), vs = [.str x, .ref a, .int n] ∧ Sq K H a l ∧ Ok l ∧ n ≤ l.length ∧ ∀ H', Same H H' → Q .non H'
section
variable {P : Program} {w : World} {K : PySem.W.Frag} {mg : Str → Option Value} {base : Heap} {f fL fN : Addr} {fd fdL fdN : FuncData}
theorem scCheck : FnScope ["part", "names", "least", "position", "name"] ["part", "names", "least"] (defScope sCheck) := ⟨rfl, rfl, rfl, by decide +kernel, rfl, by decide +kernel, by decide +kernel⟩
theorem ok_check (F : FnP K "_check_part" sCheck f fd) (FL : FnP K "is_list" sIsList fL fdL) (FN : FnP K "is_name" sIsName fN fdN) (GL : FnOk P w K mg base CX0 1 fL fdL ["value"] (spIsList K)) (GN : FnOk P w K mg base CX0 1 fN fdN ["value"] spIsName)
    (gL : mg "is_list" = some (.ref fL)) (gN : mg "is_name" = some (.ref fN)) (gLen : mg "len" = none) (gEn : mg "enumerate" = none) : FnOk P w K mg base CX0 2 f fd ["part", "names", "least"] (spCheck K) := by
  have bL : Binds K fdL ["value"] [] := FL.bindsN fun _ _ _ _ _ _ us hl => match us, hl with | [_], _ => rfl
  have bN : Binds K fdN ["value"] [] := FN.bindsN fun _ _ _ _ _ _ us hl => match us, hl with | [_], _ => rfl
  refine F.ok scCheck (fun vs H Q E h => ?_) (fun cdv A outer s H vs Q E hr h => ?_)
  · obtain ⟨a, l, x, n, rfl, _⟩ := h
    rfl
  · obtain ⟨a, l, x, n, rfl, hS, ho, hn, q⟩ := h
    refine ⟨_, PSs.nox (pss_cons (ps_if (PW.pt (pw_or (pt_not (pt_val (pe_call GL hr rfl gL FL.kp bL .nil pass0 (pa_cons (pv 1) pa_nil)))) (pw_or1 (pt_cmpR op_lt (pe_callB call_len rfl gLen boot_len (pa_cons (pv 1) pa_nil)) (pv 2) (nomark _)))))
        (pss_one ps_never) pss_nil)
      (pss_one (ps_for PassesOwn.never rfl (pi_enumA rfl gEn (pa_cons (pv 1) pa_nil)) (pg_tup rfl (pgs_cons (pg_name (i := 3) scCheck.nd rfl (Or.inl rfl)) (pgs_cons (pg_name (i := 4) scCheck.nd rfl (Or.inl rfl)) pgs_nil)))
        (pss_one (ps_if (pt_not (pt_val (pe_call GN hr rfl gN FN.kp bN .nil pass0 (pa_cons (pv 4) pa_nil)))) (pss_one ps_never) pss_nil))))), ?_⟩
    walk_at "rd"
    refine ⟨a, l, rfl, hS, fun H1 s1 => ?_⟩
    walk_at "rd"
    refine iteF ?_
    walk_at "rd"
    refine ⟨_, _, rfl, (hS.same s1).len, ?_⟩
    walk_at "rd"
    refine Rd.ifB (fun z => ?_) (fun _ => ?_)
    · have := of_decide_eq_true z
      omega
    walk_at "rd"
    refine ⟨a, l.map V.str, rfl, ?_⟩
    rcases hS.same s1 with h2 | h2
    · refine .inl ⟨h2, ?_⟩
      refine for_it walk_enum (fun i σ H' => (∃ c d, σ = [some (.str x), some (.ref a), some (.int n), c, d]) ∧ Same H1 H') ⟨⟨_, _, rfl⟩, Same.refl _⟩ (fun i σ H' _ hp => h2.ext hp.2) (fun i v σ H2 H3 hi hp hy => ?_) (fun σ H' hp => q H' (s1.trans hp.2))
      obtain ⟨⟨c, d, rfl⟩, s2⟩ := hp
      obtain ⟨T, z, v, rfl, nT, rfl, hz, hv⟩ := hy
      cases hz
      obtain ⟨y, ey, my, rfl⟩ := at_map hv
      refine ⟨T, _, rfl, SqT.of upd_same, rfl, ?_⟩
      walk_at "rd"
      refine ⟨y, rfl, ho.all y my, ?_⟩
      walk_at "rd"
      refine iteF ?_
      walk_at "rd"
      exact ⟨⟨_, _, rfl⟩, s2.trans (same_new nT)⟩
    · refine .inr ⟨h2, ?_⟩
      refine for_it walk_enumT (fun i σ H' => (∃ c d, σ = [some (.str x), some (.ref a), some (.int n), c, d]) ∧ Same H1 H') ⟨⟨_, _, rfl⟩, Same.refl _⟩ (fun i σ H' _ hp => h2.ext hp.2) (fun i v σ H2 H3 hi hp hy => ?_) (fun σ H' hp => q H' (s1.trans hp.2))
      obtain ⟨⟨c, d, rfl⟩, s2⟩ := hp
      obtain ⟨T, z, v, rfl, nT, rfl, hz, hv⟩ := hy
      cases hz
      obtain ⟨y, ey, my, rfl⟩ := at_map hv
      refine ⟨T, _, rfl, SqT.of upd_same, rfl, ?_⟩
      walk_at "rd"
      refine ⟨y, rfl, ho.all y my, ?_⟩
      walk_at "rd"
      refine iteF ?_
      walk_at "rd"
      exact ⟨⟨_, _, rfl⟩, s2.trans (same_new nT)⟩
end
end K23

/-! Lists and tuples of texts as data. -/
namespace L2
open PySem PySem.Spec PyProof.Rows
theorem dpa_strs {K : PySem.W.Frag} {H : Hp} : ∀ l : List Str, DpAll K H (l.map V.str) (l.map PyData.str)
  | [] => .nil
  | x :: l => .cons (.str x) (dpa_strs l)
theorem dds_strs {K : PySem.W.Frag} {H : Hp} : ∀ l : List Str, Dds K H (l.map V.str) (l.map PyData.str)
  | [] => .nil
  | x :: l => .cons (.str x) (dds_strs l)
theorem eqva_strs : ∀ l m : List Str, PyData.eqvAll (l.map .str) (m.map .str) = decide (l = m)
  | [], [] => by
    rw [decide_eq_true rfl]
    simp only [List.map_nil, PyData.eqvAll]
  | [], _ :: _ => by
    rw [decide_eq_false (fun z => by cases z)]
    simp only [List.map_nil, List.map_cons, PyData.eqvAll]
  | _ :: _, [] => by
    rw [decide_eq_false (fun z => by cases z)]
    simp only [List.map_nil, List.map_cons, PyData.eqvAll]
  | x :: l, y :: m => by
    simp only [List.map_cons, PyData.eqvAll, PyData.eqv]
    rw [eqva_strs l m]
    by_cases h : x = y
    · subst h
      by_cases g : l = m
      · subst g; simp
      · rw [decide_eq_false g, Bool.and_false, decide_eq_false (fun z => g (List.cons.inj z).2)]
    · rw [beq_false_of_ne h, Bool.false_and, decide_eq_false (fun z => h (List.cons.inj z).1)]
theorem eqv_tups (l m : List Str) : PyData.eqv (.tuple (l.map .str)) (.tuple (m.map .str)) = decide (l = m) := by rw [PyData.eqv, eqva_strs]
theorem eqv_lists (l m : List Str) : PyData.eqv (.list (l.map .str)) (.list (m.map .str)) = decide (l = m) := by rw [PyData.eqv, eqva_strs]
theorem depth_strs : ∀ l : List Str, PyData.depthAll (l.map .str) = 0
  | [] => by simp only [List.map_nil, PyData.depthAll]
  | x :: l => by simp only [List.map_cons, PyData.depthAll, PyData.depth, depth_strs l, Nat.max_self]
theorem canlay_strs : ∀ l : List Str, (∀ x ∈ l, PyData.strOk x = true) → PyData.canLayAll0 (l.map .str) = true
  | [], _ => by simp only [List.map_nil, PyData.canLayAll0]
  | x :: l, h => by
    simp only [List.map_cons, PyData.canLayAll0, PyData.canLay0]
    rw [h x List.mem_cons_self, canlay_strs l fun y hy => h y (List.mem_cons_of_mem _ hy)]
    rfl
theorem showable_strs : ∀ l : List Str, PyData.showableAll (l.map .str) = true
  | [] => by simp only [List.map_nil, PyData.showableAll]
  | x :: l => by simp only [List.map_cons, PyData.showableAll, PyData.showable, showable_strs l, Bool.and_self]
theorem shaped_tup {l : List Str} (h : ∀ x ∈ l, PyData.strOk x = true) : SeqAt.shaped (.tuple (l.map .str)) = true := by
  unfold SeqAt.shaped
  rw [PyData.canLay0, canlay_strs l h, PyData.depth, depth_strs]
  rfl
theorem shaped_lst {l : List Str} (h : ∀ x ∈ l, PyData.strOk x = true) : SeqAt.shaped (.list (l.map .str)) = true := by
  unfold SeqAt.shaped
  rw [PyData.canLay0, canlay_strs l h, PyData.depth, depth_strs]
  rfl
end L2
namespace K23
open PySem PySem.Spec PyProof.Rows L2
theorem menu_str : ∀ x ∈ menu, PyData.strOk x = true := by decide +kernel
theorem Ok.strs {l : List Str} (h : Ok l) : ∀ x ∈ l, PyData.strOk x = true := fun x hx => menu_str x (h.all x hx)
theorem Ok.take {l : List Str} (h : Ok l) (k : Nat) : Ok (l.take k) := ⟨by rw [List.length_take]; have := h.few; omega, fun x hx => h.all x (List.mem_of_mem_take hx)⟩
theorem Ok.drop {l : List Str} (h : Ok l) (k : Nat) : Ok (l.drop k) := ⟨by rw [List.length_drop]; have := h.few; omega, fun x hx => h.all x (List.mem_of_mem_drop hx)⟩
theorem Ok.app {l m : List Str} (h : Ok l) (g : Ok m) (z : l.length + m.length ≤ 60) : Ok (l ++ m) := ⟨by rw [List.length_append]; exact z, fun x hx => (List.mem_append.mp hx).elim (h.all x) (g.all x)⟩
theorem Ok.rot {l : List Str} (h : Ok l) (k : Nat) : Ok (M23.rot k l) := ⟨by rw [M23.rot_len]; exact h.few, fun x hx => (List.mem_append.mp hx).elim (fun z => h.all x (List.mem_of_mem_drop z)) fun z => h.all x (List.mem_of_mem_take z)⟩
theorem Ok.rep {l : List Str} (h : Ok l) (n : Nat) (z : n * l.length ≤ 60) : Ok (M23.rep n l) := ⟨by rw [M23.rep_len]; exact z, fun x hx => by
  obtain ⟨y, hy, hx⟩ := List.mem_flatten.mp hx
  rw [List.eq_of_mem_replicate hy] at hx
  exact h.all x hx⟩
end K23

namespace K23
open PySem PySem.Spec PyProof.Rows L2
local macro_rules | `(tactic| walk_at "rd1") => `(tactic| first
  | (with_reducible refine Rd.seq ?_) | (with_reducible refine Rd.asg ?_) | (with_reducible refine Rd.ret ?_) | (with_reducible refine Rd.nxt ?_) | (with_reducible refine Rd.ifS ?_)
  | (with_reducible refine Rd.op ?_) | (with_reducible refine Rd.un ?_) | (with_reducible refine Rd.cb ?_) | (with_reducible refine Rd.cons ?_) | (with_reducible refine Rd.nil ?_) | (with_reducible refine Rd.ifx ?_)
  | (with_reducible refine Rd.test ?_) | (with_reducible refine Rd.testB ?_) | (with_reducible refine Rd.notT ?_) | (with_reducible refine Rd.isB ?_) | (with_reducible refine Rd.lst ?_) | (with_reducible refine Rd.tup ?_)
  | (with_reducible refine Rd.andV ?_) | (with_reducible refine Rd.orV ?_) | (with_reducible refine Rd.notV ?_) | (with_reducible refine Rd.andT ?_) | (with_reducible refine Rd.orT ?_) | (with_reducible refine Rd.chain ?_)
  | (with_reducible refine Rd.m0 ?_) | (with_reducible refine Rd.m1 ?_) | (with_reducible refine Rd.bm0 ?_) | (with_reducible refine Rd.bm ?_) | (with_reducible refine Rd.sl ?_) | (with_reducible refine Rd.part ?_) | (with_reducible refine Rd.part0 ?_) | (with_reducible refine Rd.isI ?_)
  | (with_reducible refine Rd.fmt ?_) | (with_reducible refine Rd.fmtRD ?_) | (with_reducible refine Rd.meth ?_) | (with_reducible refine Rd.make ?_) | (with_reducible refine Rd.prop ?_) | (with_reducible refine Rd.js ?_) | (with_reducible refine Rd.js0 ?_) | (with_reducible refine Rd.par ?_) | (with_reducible refine Rd.star ?_) | (with_reducible refine lcR1 ?_) | (with_reducible refine lcR2 ?_) | (with_reducible refine Rd.fld ?_) | (with_reducible refine Rd.sfld ?_) | (with_reducible refine Rd.expr ?_) | (with_reducible refine L2.isNR ?_) | (with_reducible refine L2.methI ?_) | (with_reducible refine Rd.forZ ?_)
  | (with_reducible refine Rd.forEA ?_) | (with_reducible refine Rd.forR1 ?_) | (with_reducible refine Rd.forR2 ?_) | (with_reducible refine Rd.forL ?_) | (with_reducible refine Rd.forT ?_)
  | (with_reducible refine Rd.call ?_) | (with_reducible refine Rd.asgG ?_) | (with_reducible refine Rd.gNm ?_) | (with_reducible refine Rd.gSb ?_) | (with_reducible refine Rd.gC ?_) | (with_reducible refine Rd.gN ?_)
  | ((with_reducible refine' Rd.var ?hv ?_); (case hv => exact rfl)) | (with_reducible refine Rd.c ?_) | (with_reducible refine Rd.i0 ?_) | (with_reducible refine Rd.neg ?_)
  | ((with_reducible refine' Rd.iC ?hc ?_); (case hc => first | (show (0 : Int) < _; decide) | exact ⟨by decide, by decide⟩ | exact ⟨by decide, by decide, by decide⟩ | exact .inl ⟨by decide, by decide⟩ | exact .inr ⟨by decide, by decide⟩ | exact .inl ⟨by omega, by omega⟩ | (show (0 : Int) < _; omega) | exact ⟨by omega, by omega⟩))
  | ((with_reducible refine' Rd.eqS ?hc ?_); (case hc => rfl)) | ((with_reducible refine' Rd.neS ?hc ?_); (case hc => rfl)))
local macro_rules | `(tactic| walk_at "rd") => `(tactic| repeat walk_at "rd1")
abbrev sShort : Stmt := topA iShort
abbrev sMany : Stmt := topA iMany
abbrev sMoved : Stmt := topA iMoved
def spShort (K : PySem.W.Frag) : Sp := fun vs H Q _ => ∃ (a : Addr) (T : List Str), vs = [.ref a] ∧ SqT K H a (T.map V.str) ∧ T ≠ [] ∧ T.length ≤ 60 ∧ ∀ (H' : Hp) (p : Addr) (k : Nat), Same H H' → M23.Sh T k → SqT K H' p ((T.take k).map V.str) → Q (.ref p) H'
def spMoved (K : PySem.W.Frag) : Sp := fun vs H Q _ => ∃ (a : Addr) (T : List Str) (m : Int), vs = [.ref a, .int m] ∧ SqT K H a (T.map V.str) ∧ T ≠ [] ∧ T.length ≤ 60 ∧ ∀ (H' : Hp) (p : Addr) (r : Nat), Same H H' → r < T.length → (r : Int) = m % T.length → SqT K H' p ((M23.rot r T).map V.str) → Q (.ref p) H'
section
variable {P : Program} {w : World} {K : PySem.W.Frag} {mg : Str → Option Value} {base : Heap} {f fL fN : Addr} {fd fdL fdN : FuncData}
theorem scMoved : FnScope ["turn", "many", "begin"] ["turn", "many"] (defScope sMoved) := ⟨rfl, rfl, rfl, by decide +kernel, rfl, by decide +kernel, by decide +kernel⟩
theorem ok_moved (F : FnP K "moved_on" sMoved f fd) (gLen : mg "len" = none) : FnOk P w K mg base CX0 1 f fd ["turn", "many"] (spMoved K) := by
  refine F.ok scMoved (fun vs H Q E h => ?_) (fun cdv A outer s H vs Q E hr h => ?_)
  · obtain ⟨a, T, m, rfl, _⟩ := h
    rfl
  · obtain ⟨a, T, m, rfl, hT, hne, hl, q⟩ := h
    refine ⟨_, PSs.nox (pss_cons (ps_set (i := 2) scMoved.nd rfl (Or.inl rfl) (pe_op op_mod (pv 1) (pe_callB call_len rfl gLen boot_len (pa_cons (pv 0) pa_nil))))
      (pss_one (ps_ret (pe_op op_catA (pe_slice sl_tupA (pv 0) (po_some (pv 2)) po_none) (pe_slice sl_tupA (pv 0) po_none (po_some (pv 2))))))), ?_⟩
    walk_at "rd"
    refine ⟨_, _, rfl, .inr ⟨_, hT, by rw [List.length_map]⟩, ?_⟩
    have n0 := List.length_pos_iff.mpr hne
    walk_at "rd"
    obtain ⟨r, er⟩ := Int.eq_ofNat_of_zero_le (Int.emod_nonneg m (show (T.length : Int) ≠ 0 by omega))
    have rl : r < T.length := by
      have := Int.emod_lt_of_pos m (show (0 : Int) < T.length by omega)
      omega
    rw [er]
    refine Rd.slA hT fun p H1 s1 hp => ?_
    walk_at "rd"
    refine Rd.slA (hT.ext s1) fun p2 H2 s2 hp2 => ?_
    rw [Rd.cut_from (by rw [List.length_map]; omega), ← List.map_drop] at hp
    rw [Rd.cut_to, ← List.map_take] at hp2
    refine Rd.catA (hp.ext s2) hp2 ?_ fun p3 H3 s3 hp3 => q H3 p3 r (s1.trans (s2.trans s3)) rl er.symm ?_
    · rw [List.length_map, List.length_map, List.length_drop, List.length_take]
      omega
    · rw [← List.map_append] at hp3
      exact hp3
end
end K23

namespace K23
open PySem PySem.Spec PyProof.Rows L2
local macro_rules | `(tactic| walk_at "rd1") => `(tactic| first
  | (with_reducible refine Rd.seq ?_) | (with_reducible refine Rd.asg ?_) | (with_reducible refine Rd.ret ?_) | (with_reducible refine Rd.nxt ?_) | (with_reducible refine Rd.ifS ?_)
  | (with_reducible refine Rd.op ?_) | (with_reducible refine Rd.un ?_) | (with_reducible refine Rd.cb ?_) | (with_reducible refine Rd.cons ?_) | (with_reducible refine Rd.nil ?_) | (with_reducible refine Rd.ifx ?_)
  | (with_reducible refine Rd.test ?_) | (with_reducible refine Rd.testB ?_) | (with_reducible refine Rd.notT ?_) | (with_reducible refine Rd.isB ?_) | (with_reducible refine Rd.lst ?_) | (with_reducible refine Rd.tup ?_)
  | (with_reducible refine Rd.andV ?_) | (with_reducible refine Rd.orV ?_) | (with_reducible refine Rd.notV ?_) | (with_reducible refine Rd.andT ?_) | (with_reducible refine Rd.orT ?_) | (with_reducible refine Rd.chain ?_)
  | (with_reducible refine Rd.m0 ?_) | (with_reducible refine Rd.m1 ?_) | (with_reducible refine Rd.bm0 ?_) | (with_reducible refine Rd.bm ?_) | (with_reducible refine Rd.sl ?_) | (with_reducible refine Rd.part ?_) | (with_reducible refine Rd.part0 ?_) | (with_reducible refine Rd.isI ?_)
  | (with_reducible refine Rd.fmt ?_) | (with_reducible refine Rd.fmtRD ?_) | (with_reducible refine Rd.meth ?_) | (with_reducible refine Rd.make ?_) | (with_reducible refine Rd.prop ?_) | (with_reducible refine Rd.js ?_) | (with_reducible refine Rd.js0 ?_) | (with_reducible refine Rd.par ?_) | (with_reducible refine Rd.star ?_) | (with_reducible refine lcR1 ?_) | (with_reducible refine lcR2 ?_) | (with_reducible refine Rd.fld ?_) | (with_reducible refine Rd.sfld ?_) | (with_reducible refine Rd.expr ?_) | (with_reducible refine L2.isNR ?_) | (with_reducible refine L2.methI ?_) | (with_reducible refine Rd.forZ ?_)
  | (with_reducible refine Rd.forEA ?_) | (with_reducible refine Rd.forR1 ?_) | (with_reducible refine Rd.forR2 ?_) | (with_reducible refine Rd.forL ?_) | (with_reducible refine Rd.forT ?_)
  | (with_reducible refine Rd.call ?_) | (with_reducible refine Rd.asgG ?_) | (with_reducible refine Rd.gNm ?_) | (with_reducible refine Rd.gSb ?_) | (with_reducible refine Rd.gC ?_) | (with_reducible refine Rd.gN ?_)
  | ((with_reducible refine' Rd.var ?hv ?_); (case hv => exact rfl)) | (with_reducible refine Rd.c ?_) | (with_reducible refine Rd.i0 ?_) | (with_reducible refine Rd.neg ?_)
  | ((with_reducible refine' Rd.iC ?hc ?_); (case hc => first | (show (0 : Int) < _; decide) | exact ⟨by decide, by decide⟩ | exact ⟨by decide, by decide, by decide⟩ | exact .inl ⟨by decide, by decide⟩ | exact .inr ⟨by decide, by decide⟩ | exact .inl ⟨by omega, by omega⟩ | (show (0 : Int) < _; omega) | exact ⟨by omega, by omega⟩))
  | ((with_reducible refine' Rd.eqS ?hc ?_); (case hc => rfl)) | ((with_reducible refine' Rd.neS ?hc ?_); (case hc => rfl)))
local macro_rules | `(tactic| walk_at "rd") => `(tactic| repeat walk_at "rd1")
def spShort2 (K : PySem.W.Frag) : Sp := fun vs H Q _ => ∃ (a : Addr) (T : List Str), vs = [.ref a] ∧ SqT K H a (T.map V.str) ∧ T ≠ [] ∧ Ok T ∧ ∀ (H' : Hp) (p : Addr) (k : Nat), Same H H' → M23.Sh T k → SqT K H' p ((T.take k).map V.str) → Q (.ref p) H'
theorem rep_map (n : Nat) (l : List Str) : (List.replicate n (l.map V.str)).flatten = (M23.rep n l).map V.str := by
  unfold M23.rep
  rw [List.map_flatten, List.map_replicate]
section
variable {P : Program} {w : World} {K : PySem.W.Frag} {mg : Str → Option Value} {base : Heap} {f fL fN : Addr} {fd fdL fdN : FuncData}
theorem scShort : FnScope ["turn", "many"] ["turn"] (defScope sShort) := ⟨rfl, rfl, rfl, by decide +kernel, rfl, by decide +kernel, by decide +kernel⟩
theorem ok_short (F : FnP K "shortest_turn" sShort f fd) (gLen : mg "len" = none) (gRange : mg "range" = none) : FnOk P w K mg base CX0 1 f fd ["turn"] (spShort2 K) := by
  refine F.ok scShort (fun vs H Q E h => ?_) (fun cdv A outer s H vs Q E hr h => ?_)
  · obtain ⟨a, T, rfl, _⟩ := h
    rfl
  · obtain ⟨a, T, rfl, hT, hne, ho, q⟩ := h
    refine ⟨_, PSs.nox (pss_cons (ps_for PassesOwn.never rfl (pi_range2 rfl gRange (pa_cons pe_int (pa_cons (pe_callB call_len rfl gLen boot_len (pa_cons (pv 0) pa_nil)) pa_nil))) (pg_name (i := 1) scShort.nd rfl (Or.inl rfl))
        (pss_one (ps_if (PW.pt (pw_and (pt_cmpR op_eq (pe_op op_mod (pe_callB call_len rfl gLen boot_len (pa_cons (pv 0) pa_nil)) (pv 1)) pe_int (nomark _))
            (pw_and1 (pt_cmpR (op_eqD hr.units) (pe_op op_repT (pe_slice sl_tupA (pv 0) po_none (po_some (pv 1))) (pe_op op_fdiv (pe_callB call_len rfl gLen boot_len (pa_cons (pv 0) pa_nil)) (pv 1))) (pv 0) (nomark _)))))
          (pss_one (ps_ret (pe_slice sl_tupA (pv 0) po_none (po_some (pv 1))))) pss_nil)))
      (pss_one (ps_ret (pv 0)))), ?_⟩
    have n0 := List.length_pos_iff.mpr hne
    have hf := ho.few
    have len : ∀ H', Same H H' → LenV K (.ref a) H' T.length := fun H' e => .inr ⟨_, hT.ext e, by rw [List.length_map]⟩
    walk_at "rd"
    refine ⟨_, _, rfl, len H (Same.refl _), ?_⟩
    walk_at "rd"
    refine ⟨1, T.length, rfl, ⟨by decide, by decide, by omega, by omega⟩, ?_⟩
    refine for_it walk_range (fun i σ H' => (∃ c, σ = [some (.ref a), c]) ∧ Same H H' ∧ ∀ j, 0 < j → j < i + 1 → M23.rep (T.length / j) (T.take j) ≠ T) ⟨⟨_, rfl⟩, Same.refl _, fun j h1 h2 => by omega⟩ (fun _ _ _ _ _ => trivial) (fun i v σ H2 H3 hi hp hy => ?_) (fun σ H' hp => ?_)
    · obtain ⟨⟨c, rfl⟩, s2, no⟩ := hp
      obtain ⟨rfl, hv⟩ := hy
      have hi' : i + 1 < T.length := by omega
      obtain rfl : v = .int ((i + 1 : Nat) : Int) := hv.trans (congrArg V.int (show ((1 : Int) + (i : Int)) = ((i + 1 : Nat) : Int) by omega))
      walk_at "rd"
      refine ⟨_, _, rfl, len H3 s2, ?_⟩
      walk_at "rd"
      have i0 : (0 : Int) < ((i + 1 : Nat) : Int) := by omega
      have step : M23.rep (T.length / (i + 1)) (T.take (i + 1)) ≠ T → ∀ j, 0 < j → j < i + 1 + 1 → M23.rep (T.length / j) (T.take j) ≠ T := fun z j h1 h2 => by
        by_cases g : j = i + 1
        · rw [g]
          exact z
        · exact no j h1 (by omega)
      refine Rd.ifB (fun dv => ?_) (fun nd => ?_)
      · have dv0 : T.length % (i + 1) = 0 := by
          have z := V.int.inj (of_decide_eq_true dv)
          omega
        have d2 : 2 ≤ T.length / (i + 1) := by
          have m := Nat.mod_add_div' T.length (i + 1)
          rw [dv0, Nat.zero_add] at m
          refine Nat.le_of_not_lt fun lt => ?_
          have : T.length / (i + 1) = 0 ∨ T.length / (i + 1) = 1 := (by omega : ∀ x : Nat, x < 2 → x = 0 ∨ x = 1) _ lt
          rcases this with z | z
          · rw [z, Nat.zero_mul] at m; omega
          · rw [z, Nat.one_mul] at m; omega
        have dle : T.length / (i + 1) ≤ T.length := Nat.div_le_self _ _
        walk_at "rd"
        refine Rd.slA (hT.ext s2) fun p1 H4 s3 hp1 => ?_
        rw [Rd.cut_to, ← List.map_take] at hp1
        walk_at "rd"
        refine ⟨_, _, rfl, len H4 (s2.trans s3), ?_⟩
        walk_at "rd"
        have ed : (T.length : Int) / ((i + 1 : Nat) : Int) = ((T.length / (i + 1) : Nat) : Int) := rfl
        have tl : (T.take (i + 1)).length = i + 1 := by rw [List.length_take]; omega
        rw [ed]
        refine ⟨p1, _, _, rfl, rfl, hp1, fun z => ?_, by omega, by omega, by rw [List.length_map, tl]; omega, fun p2 np2 => ?_⟩
        · have y := congrArg List.length z
          rw [List.length_map, tl] at y
          cases y
        rw [Int.toNat_natCast, rep_map]
        have s4 := same_new (o := HO.tup ((M23.rep (T.length / (i + 1)) (T.take (i + 1))).map V.str)) np2
        have o4 := upd_same (H := H4) (a := p2) (o := HO.tup ((M23.rep (T.length / (i + 1)) (T.take (i + 1))).map V.str))
        generalize upd H4 p2 (HO.tup ((M23.rep (T.length / (i + 1)) (T.take (i + 1))).map V.str)) = H5 at s4 o4 ⊢
        have rl : (T.length / (i + 1)) * (T.take (i + 1)).length ≤ 60 := by
          rw [tl]
          exact Nat.le_trans (Nat.div_mul_le_self _ _) ho.few
        have s25 := (s2.trans s3).trans s4
        walk_at "rd"
        refine ⟨_, _, .tup (SqT.of o4) (dpa_strs _), .tup (hT.ext s25) (dpa_strs T), shaped_tup ((ho.take _).rep _ rl).strs, shaped_tup ho.strs, ?_⟩
        rw [eqv_tups]
        walk_at "rd"
        refine Rd.ifB (fun eq => ?_) (fun nq => ?_)
        · walk_at "rd"
          refine Rd.slA (hT.ext s25) fun p3 H6 s6 hp3 => ?_
          rw [Rd.cut_to, ← List.map_take] at hp3
          exact q H6 p3 (i + 1) (s25.trans s6) ⟨Nat.succ_pos _, Nat.le_of_lt hi', of_decide_eq_true eq, fun j h1 h2 => no j h1 h2⟩ hp3
        · walk_at "rd"
          exact ⟨⟨_, rfl⟩, s25, step (of_decide_eq_false nq)⟩
      · walk_at "rd"
        refine ⟨⟨_, rfl⟩, s2, step fun z => ?_⟩
        have y := congrArg List.length z
        rw [M23.rep_len, List.length_take, Nat.min_eq_left (Nat.le_of_lt hi')] at y
        have z2 := of_decide_eq_false nd
        refine z2 (congrArg V.int ?_)
        have m := Nat.mod_add_div' T.length (i + 1)
        omega
    · obtain ⟨⟨c, rfl⟩, s2, no⟩ := hp
      walk_at "rd"
      refine q H' a T.length s2 ⟨n0, Nat.le_refl _, ?_, fun j h1 h2 => no j h1 (by omega)⟩ ?_
      · rw [Nat.div_self n0, List.take_length]
        simp [M23.rep]
      · rw [List.take_length]
        exact hT.ext s2
end
end K23

namespace K23
open PySem PySem.Spec PyProof.Rows L2
local macro_rules | `(tactic| walk_at "rd1") => `(tactic| first
  | (with_reducible refine Rd.seq ?_) | (with_reducible refine Rd.asg ?_) | (with_reducible refine Rd.ret ?_) | (with_reducible refine Rd.nxt ?_) | (with_reducible refine Rd.ifS ?_)
  | (with_reducible refine Rd.op ?_) | (with_reducible refine Rd.un ?_) | (with_reducible refine Rd.cb ?_) | (with_reducible refine Rd.cons ?_) | (with_reducible refine Rd.nil ?_) | (with_reducible refine Rd.ifx ?_)
  | (with_reducible refine Rd.test ?_) | (with_reducible refine Rd.testB ?_) | (with_reducible refine Rd.notT ?_) | (with_reducible refine Rd.isB ?_) | (with_reducible refine Rd.lst ?_) | (with_reducible refine Rd.tup ?_)
  | (with_reducible refine Rd.andV ?_) | (with_reducible refine Rd.orV ?_) | (with_reducible refine Rd.notV ?_) | (with_reducible refine Rd.andT ?_) | (with_reducible refine Rd.orT ?_) | (with_reducible refine Rd.chain ?_)
  | (with_reducible refine Rd.m0 ?_) | (with_reducible refine Rd.m1 ?_) | (with_reducible refine Rd.bm0 ?_) | (with_reducible refine Rd.bm ?_) | (with_reducible refine Rd.sl ?_) | (with_reducible refine Rd.part ?_) | (with_reducible refine Rd.part0 ?_) | (with_reducible refine Rd.isI ?_)
  | (with_reducible refine Rd.fmt ?_) | (with_reducible refine Rd.fmtRD ?_) | (with_reducible refine Rd.meth ?_) | (with_reducible refine Rd.make ?_) | (with_reducible refine Rd.prop ?_) | (with_reducible refine Rd.js ?_) | (with_reducible refine Rd.js0 ?_) | (with_reducible refine Rd.par ?_) | (with_reducible refine Rd.star ?_) | (with_reducible refine lcR1 ?_) | (with_reducible refine lcR2 ?_) | (with_reducible refine Rd.fld ?_) | (with_reducible refine Rd.sfld ?_) | (with_reducible refine Rd.expr ?_) | (with_reducible refine L2.isNR ?_) | (with_reducible refine L2.methI ?_) | (with_reducible refine Rd.forZ ?_)
  | (with_reducible refine Rd.forEA ?_) | (with_reducible refine Rd.forR1 ?_) | (with_reducible refine Rd.forR2 ?_) | (with_reducible refine Rd.forL ?_) | (with_reducible refine Rd.forT ?_)
  | (with_reducible refine Rd.call ?_) | (with_reducible refine Rd.asgG ?_) | (with_reducible refine Rd.gNm ?_) | (with_reducible refine Rd.gSb ?_) | (with_reducible refine Rd.gC ?_) | (with_reducible refine Rd.gN ?_)
  | ((with_reducible refine' Rd.var ?hv ?_); (case hv => exact rfl)) | (with_reducible refine Rd.c ?_) | (with_reducible refine Rd.i0 ?_) | (with_reducible refine Rd.neg ?_)
  | ((with_reducible refine' Rd.iC ?hc ?_); (case hc => first | (show (0 : Int) < _; decide) | exact ⟨by decide, by decide⟩ | exact ⟨by decide, by decide, by decide⟩ | exact .inl ⟨by decide, by decide⟩ | exact .inr ⟨by decide, by decide⟩ | exact .inl ⟨by omega, by omega⟩ | (show (0 : Int) < _; omega) | exact ⟨by omega, by omega⟩))
  | ((with_reducible refine' Rd.eqS ?hc ?_); (case hc => rfl)) | ((with_reducible refine' Rd.neS ?hc ?_); (case hc => rfl)))
local macro_rules | `(tactic| walk_at "rd") => `(tactic| repeat walk_at "rd1")
/-- how many names at the end of the lead the turn has, too -/
structure Mn (L S : List Str) (m : Nat) : Prop where
  le : m ≤ L.length
  all : ∀ j, j < m → L[L.length - 1 - j]? = S[S.length - 1 - j % S.length]?
  stop : m < L.length → L[L.length - 1 - m]? ≠ S[S.length - 1 - m % S.length]?
def spMany (K : PySem.W.Frag) : Sp := fun vs H Q _ => ∃ (a b : Addr) (L S : List Str), vs = [.ref a, .ref b] ∧ SqT K H a (L.map V.str) ∧ SqT K H b (S.map V.str) ∧ S ≠ [] ∧ L.length ≤ 60 ∧ S.length ≤ 60 ∧ ∀ m, Mn L S m → Q (.int (m : Nat)) H
theorem at_str {l : List Str} {i : Nat} (h : i < l.length) : (l.map V.str)[i]? = some (.str l[i]) := by rw [List.getElem?_map, List.getElem?_eq_getElem h]; rfl
section
variable {P : Program} {w : World} {K : PySem.W.Frag} {mg : Str → Option Value} {base : Heap} {f fL fN : Addr} {fd fdL fdN : FuncData}
theorem scMany : FnScope ["lead", "turn", "many"] ["lead", "turn"] (defScope sMany) := ⟨rfl, rfl, rfl, by decide +kernel, rfl, by decide +kernel, by decide +kernel⟩
theorem ok_many (F : FnP K "many_in_turn" sMany f fd) (gLen : mg "len" = none) : FnOk P w K mg base CX0 1 f fd ["lead", "turn"] (spMany K) := by
  refine F.ok scMany (fun vs H Q E h => ?_) (fun cdv A outer s H vs Q E hr h => ?_)
  · obtain ⟨a, b, L, S, rfl, _⟩ := h
    rfl
  · obtain ⟨a, b, L, S, rfl, hL, hS, hne, zL, zS, q⟩ := h
    refine ⟨_, PSs.nox (pss_cons (ps_set (i := 2) scMany.nd rfl (Or.inl rfl) pe_int)
      (pss_cons (ps_while PassesOwn.never (PW.pt (pw_and (pt_cmpR op_lt (pv 2) (pe_callB call_len rfl gLen boot_len (pa_cons (pv 0) pa_nil)) (nomark _))
          (pw_and1 (pt_cmpR op_eq (pe_ix ix_tup (pv 0) (pe_op op_sub (pe_un un_neg pe_int) (pv 2)) (fun _ _ => rfl))
            (pe_ix ix_tup (pv 1) (pe_op op_sub (pe_un un_neg pe_int) (pe_op op_mod (pv 2) (pe_callB call_len rfl gLen boot_len (pa_cons (pv 1) pa_nil)))) (fun _ _ => rfl)) (nomark _)))))
        (pss_one (ps_aug (i := 2) scMany.nd rfl (Or.inl rfl) pe_int ip_add)))
      (pss_one (ps_ret (pv 2))))), ?_⟩
    have n0 := List.length_pos_iff.mpr hne
    have lenL : LenV K (.ref a) H L.length := .inr ⟨_, hL, by rw [List.length_map]⟩
    have lenS : LenV K (.ref b) H S.length := .inr ⟨_, hS, by rw [List.length_map]⟩
    walk_at "rd"
    refine Rd.whl ⟨fun m σ H' => ∃ j : Nat, σ = [some (.ref a), some (.ref b), some (.int j)] ∧ H' = H ∧ j ≤ L.length ∧ m = L.length - j ∧ ∀ i, i < j → L[L.length - 1 - i]? = S[S.length - 1 - i % S.length]?, ⟨L.length, 0, rfl, rfl, Nat.zero_le _, by omega, fun i h => by omega⟩, ?_⟩
    rintro m σ H' ⟨j, rfl, rfl, jl, rfl, al⟩
    walk_at "rd"
    refine ⟨_, _, rfl, lenL, ?_⟩
    walk_at "rd"
    refine Rd.ifB (fun lt => ?_) (fun nl => ?_)
    · have jl2 : j < L.length := by
        have z := of_decide_eq_true lt
        omega
      walk_at "rd"
      refine Rd.ixT hL ((Rd.at_neg (by rw [List.length_map]; exact jl2)).trans (by rw [List.length_map]; exact at_str (by omega))) ?_
      walk_at "rd"
      refine ⟨_, _, rfl, lenS, ?_⟩
      walk_at "rd"
      have em : (j : Int) % (S.length : Int) = ((j % S.length : Nat) : Int) := rfl
      have ml := Nat.mod_lt j n0
      rw [em]
      refine Rd.ixT hS ((Rd.at_neg (by rw [List.length_map]; exact ml)).trans (by rw [List.length_map]; exact at_str (by omega))) ?_
      walk_at "rd"
      refine Rd.ifB (fun eq => ?_) (fun nq => ?_)
      · refine ⟨fun σ' H2 => ∃ i : Nat, σ' = [some (.ref a), some (.ref b), some (.int i)] ∧ H2 = H' ∧ i = j + 1, ?_, ?_⟩
        · rintro σ' H2 ⟨i, rfl, rfl, rfl⟩
          refine ⟨L.length - (j + 1), by omega, j + 1, rfl, rfl, by omega, rfl, fun i hi => ?_⟩
          by_cases g : i = j
          · subst g
            rw [List.getElem?_eq_getElem (by omega), List.getElem?_eq_getElem (by omega)]
            exact congrArg some (V.str.inj (of_decide_eq_true eq))
          · exact al i (by omega)
        · refine Rd.aug ⟨_, rfl, ?_⟩
          walk_at "rd"
          exact ⟨_, _, rfl, rfl, j + 1, by simp, rfl, rfl⟩
      · walk_at "rd"
        refine q j ⟨jl, al, fun _ z => ?_⟩
        rw [List.getElem?_eq_getElem (by omega), List.getElem?_eq_getElem (by omega)] at z
        exact of_decide_eq_false nq (congrArg V.str (Option.some.inj z))
    · refine iteF ?_
      walk_at "rd"
      refine q j ⟨jl, al, fun z => ?_⟩
      have y := of_decide_eq_false nl
      exact (y (by omega)).elim
end
end K23

namespace L2
open PySem PySem.Spec PyProof.Rows
/-- o.f = a value that is there -/
def gFld (K : PySem.W.Frag) (ta : TE) (f : Str) : TG := fun v σ H Q => ta σ H fun x H1 => ∃ a C dx fs, x = .ref a ∧ H1 a = some (.ins C dx fs) ∧ Cls K C ∧ NoAttr K C f ∧ fs.length < 1000 ∧ Q σ (upd H1 a (.ins C dx (putF f v fs)))
theorem pg_fld {X : Cx} {o : Expr} {ta : TE} {f : Str} {pos : Pos} (ha : PE X o ta) : PG X (.Attribute o f pos) (gFld X.K ta f) := by
  refine ⟨fun pins s σ H v u Q I r h => ?_⟩
  rw [assign_Attribute]
  refine wpAny_bind (wpAny_holding (thn (ha.run pins s σ H _ I h) fun ov s1 ⟨x, H1, I1, r1, a, C, dx, fs, ex, ea, c, n, l, q1⟩ => ?_))
  subst ex
  obtain rfl : ov = Value.ref a := r1
  refine wpAny_bind (wpAny_standAt (wpAny_bind (wpAny_holding (setattr_ok I1 ea c n l r fun s2 I2 => ?_))))
  exact wpAny_release ⟨σ, _, I2, q1⟩
theorem Rd.gF {K : PySem.W.Frag} {ta : TE} {f : Str} {v : V} {σ : St} {H : Hp} {Q : St → Hp → Prop} (h : ta σ H fun x H1 => ∃ a C dx fs, x = .ref a ∧ H1 a = some (.ins C dx fs) ∧ Cls K C ∧ NoAttr K C f ∧ fs.length < 1000 ∧ Q σ (upd H1 a (.ins C dx (putF f v fs)))) : gFld K ta f v σ H Q := h
end L2
namespace K23
open PySem PySem.Spec PyProof.Rows L2
local macro_rules | `(tactic| walk_at "rd1") => `(tactic| first
  | (with_reducible refine Rd.seq ?_) | (with_reducible refine Rd.asg ?_) | (with_reducible refine Rd.ret ?_) | (with_reducible refine Rd.nxt ?_) | (with_reducible refine Rd.ifS ?_)
  | (with_reducible refine Rd.op ?_) | (with_reducible refine Rd.un ?_) | (with_reducible refine Rd.cb ?_) | (with_reducible refine Rd.cons ?_) | (with_reducible refine Rd.nil ?_) | (with_reducible refine Rd.ifx ?_)
  | (with_reducible refine Rd.test ?_) | (with_reducible refine Rd.testB ?_) | (with_reducible refine Rd.notT ?_) | (with_reducible refine Rd.isB ?_) | (with_reducible refine Rd.lst ?_) | (with_reducible refine Rd.tup ?_)
  | (with_reducible refine Rd.andV ?_) | (with_reducible refine Rd.orV ?_) | (with_reducible refine Rd.notV ?_) | (with_reducible refine Rd.andT ?_) | (with_reducible refine Rd.orT ?_) | (with_reducible refine Rd.chain ?_)
  | (with_reducible refine Rd.m0 ?_) | (with_reducible refine Rd.m1 ?_) | (with_reducible refine Rd.bm0 ?_) | (with_reducible refine Rd.bm ?_) | (with_reducible refine Rd.sl ?_) | (with_reducible refine Rd.part ?_) | (with_reducible refine Rd.part0 ?_) | (with_reducible refine Rd.isI ?_)
  | (with_reducible refine Rd.fmt ?_) | (with_reducible refine Rd.fmtRD ?_) | (with_reducible refine Rd.meth ?_) | (with_reducible refine Rd.make ?_) | (with_reducible refine Rd.prop ?_) | (with_reducible refine Rd.js ?_) | (with_reducible refine Rd.js0 ?_) | (with_reducible refine Rd.par ?_) | (with_reducible refine Rd.star ?_) | (with_reducible refine lcR1 ?_) | (with_reducible refine lcR2 ?_) | (with_reducible refine Rd.fld ?_) | (with_reducible refine Rd.sfld ?_) | (with_reducible refine Rd.expr ?_) | (with_reducible refine L2.isNR ?_) | (with_reducible refine L2.methI ?_) | (with_reducible refine Rd.forZ ?_)
  | (with_reducible refine Rd.forEA ?_) | (with_reducible refine Rd.forR1 ?_) | (with_reducible refine Rd.forR2 ?_) | (with_reducible refine Rd.forL ?_) | (with_reducible refine Rd.forT ?_)
  | (with_reducible refine Rd.call ?_) | (with_reducible refine Rd.asgG ?_) | (with_reducible refine Rd.gNm ?_) | (with_reducible refine Rd.gSb ?_) | (with_reducible refine Rd.gC ?_) | (with_reducible refine Rd.gN ?_)
  | ((with_reducible refine' Rd.var ?hv ?_); (case hv => exact rfl)) | (with_reducible refine Rd.c ?_) | (with_reducible refine Rd.i0 ?_) | (with_reducible refine Rd.neg ?_)
  | ((with_reducible refine' Rd.iC ?hc ?_); (case hc => first | (show (0 : Int) < _; decide) | exact ⟨by decide, by decide⟩ | exact ⟨by decide, by decide, by decide⟩ | exact .inl ⟨by decide, by decide⟩ | exact .inr ⟨by decide, by decide⟩ | exact .inl ⟨by omega, by omega⟩ | (show (0 : Int) < _; omega) | exact ⟨by omega, by omega⟩))
  | ((with_reducible refine' Rd.eqS ?hc ?_); (case hc => rfl)) | ((with_reducible refine' Rd.neS ?hc ?_); (case hc => rfl)))
local macro_rules | `(tactic| walk_at "rd") => `(tactic| repeat walk_at "rd1")
abbrev sNf : Stmt := topA iNf
abbrev sTold : Stmt := topA iTold
def spNf (K : PySem.W.Frag) : Sp := fun vs H Q _ => ∃ (a b : Addr) (L U : List Str), vs = [.ref a, .ref b] ∧ SqT K H a (L.map V.str) ∧ SqT K H b (U.map V.str) ∧ Ok L ∧ Ok U ∧ U ≠ [] ∧
  ∀ (H' : Hp) (r p q : Addr) (L' T' : List Str), Same H H' → SqT K H' r [.ref p, .ref q] → SqT K H' p (L'.map V.str) → SqT K H' q (T'.map V.str) → M23.Nf L' T' → (∀ i, M23.sq L' T' i = M23.sq L U i) → Ok L' → Ok T' → Q (.ref r) H'
def spTold (K : PySem.W.Frag) : Sp := fun vs H Q _ => ∃ (a b : Addr) (L T : List Str) (k : Nat), vs = [.ref a, .ref b, .int (k : Nat)] ∧ SqT K H a (L.map V.str) ∧ SqT K H b (T.map V.str) ∧ T ≠ [] ∧ ∀ x, M23.sq L T k = some x → Q (.str x) H
section
variable {P : Program} {w : World} {K : PySem.W.Frag} {mg : Str → Option Value} {base : Heap} {C f fC fS fM fO : Addr} {fd fdC fdS fdM fdO : FuncData}
theorem scTold : FnScope ["lead", "turn", "position"] ["lead", "turn", "position"] (defScope sTold) := ⟨rfl, rfl, rfl, by decide +kernel, rfl, by decide +kernel, by decide +kernel⟩
theorem ok_told (F : FnP K "told_at" sTold f fd) (gLen : mg "len" = none) : FnOk P w K mg base CX0 1 f fd ["lead", "turn", "position"] (spTold K) := by
  refine F.ok scTold (fun vs H Q E h => ?_) (fun cdv A outer s H vs Q E hr h => ?_)
  · obtain ⟨a, b, L, U, k, rfl, _⟩ := h
    rfl
  · obtain ⟨a, b, L, U, k, rfl, hL, hU, hne, q⟩ := h
    refine ⟨_, PSs.nox (pss_cons (ps_if (pt_cmpR op_lt (pv 2) (pe_callB call_len rfl gLen boot_len (pa_cons (pv 0) pa_nil)) (nomark _)) (pss_one (ps_ret (pe_ix ix_tup (pv 0) (pv 2) (fun _ _ => rfl)))) pss_nil)
      (pss_one (ps_ret (pe_ix ix_tup (pv 1) (pe_op op_mod (pe_op op_sub (pv 2) (pe_callB call_len rfl gLen boot_len (pa_cons (pv 0) pa_nil))) (pe_callB call_len rfl gLen boot_len (pa_cons (pv 1) pa_nil))) (fun _ _ => rfl))))), ?_⟩
    have n0 := List.length_pos_iff.mpr hne
    have lenL : LenV K (.ref a) H L.length := .inr ⟨_, hL, by rw [List.length_map]⟩
    have lenU : LenV K (.ref b) H U.length := .inr ⟨_, hU, by rw [List.length_map]⟩
    walk_at "rd"
    refine ⟨_, _, rfl, lenL, ?_⟩
    walk_at "rd"
    refine Rd.ifB (fun z => ?_) (fun z => ?_)
    · have kl : k < L.length := by
        have y := of_decide_eq_true z
        omega
      walk_at "rd"
      refine Rd.ixT hL ((Rd.at_nat (by rw [List.length_map]; exact kl)).trans (at_str kl)) ?_
      exact q _ ((M23.sq_lo kl).trans (List.getElem?_eq_getElem kl))
    · have kl : L.length ≤ k := by
        have y := of_decide_eq_false z
        omega
      walk_at "rd"
      refine ⟨_, _, rfl, lenL, ?_⟩
      walk_at "rd"
      refine ⟨_, _, rfl, lenU, ?_⟩
      walk_at "rd"
      have em : ((k : Int) - (L.length : Int)) % (U.length : Int) = (((k - L.length) % U.length : Nat) : Int) := by
        rw [show (k : Int) - (L.length : Int) = ((k - L.length : Nat) : Int) by omega]
        rfl
      rw [em]
      have ml := Nat.mod_lt (k - L.length) n0
      refine Rd.ixT hU ((Rd.at_nat (by rw [List.length_map]; exact ml)).trans (at_str ml)) ?_
      exact q _ ((M23.sq_hi kl).trans (List.getElem?_eq_getElem ml))
theorem scNf : FnScope ["lead", "turn", "shortest", "same"] ["lead", "turn"] (defScope sNf) := ⟨rfl, rfl, rfl, by decide +kernel, rfl, by decide +kernel, by decide +kernel⟩
theorem ok_nf (F : FnP K "normal_form" sNf f fd) (FS : FnP K "shortest_turn" sShort fS fdS) (FM : FnP K "many_in_turn" sMany fM fdM) (FO : FnP K "moved_on" sMoved fO fdO)
    (GS : FnOk P w K mg base CX0 1 fS fdS ["turn"] (spShort2 K)) (GM : FnOk P w K mg base CX0 1 fM fdM ["lead", "turn"] (spMany K)) (GO : FnOk P w K mg base CX0 1 fO fdO ["turn", "many"] (spMoved K))
    (gS : mg "shortest_turn" = some (.ref fS)) (gM : mg "many_in_turn" = some (.ref fM)) (gO : mg "moved_on" = some (.ref fO)) (gLen : mg "len" = none) :
    FnOk P w K mg base CX0 2 f fd ["lead", "turn"] (spNf K) := by
  have bS : Binds K fdS ["turn"] [] := FS.bindsN fun _ _ _ _ _ _ us hl => match us, hl with | [_], _ => rfl
  have bM : Binds K fdM ["lead", "turn"] [] := FM.bindsN fun _ _ _ _ _ _ us hl => match us, hl with | [_, _], _ => rfl
  have bO : Binds K fdO ["turn", "many"] [] := FO.bindsN fun _ _ _ _ _ _ us hl => match us, hl with | [_, _], _ => rfl
  refine F.ok scNf (fun vs H Q E h => ?_) (fun cdv A outer s H vs Q E hr h => ?_)
  · obtain ⟨a, b, L, U, rfl, _⟩ := h
    rfl
  · obtain ⟨a, b, L, U, rfl, hL, hU, oL, oU, hne, q⟩ := h
    refine ⟨_, PSs.nox (pss_cons (ps_set (i := 2) scNf.nd rfl (Or.inl rfl) (pe_call GS hr rfl gS FS.kp bS .nil pass0 (pa_cons (pv 1) pa_nil)))
      (pss_cons (ps_set (i := 3) scNf.nd rfl (Or.inl rfl) (pe_call GM hr rfl gM FM.kp bM .nil pass0 (pa_cons (pv 0) (pa_cons (pv 2) pa_nil))))
      (pss_one (ps_ret (pe_tup (pa_cons (pe_slice sl_tupA (pv 0) po_none (po_some (pe_op op_sub (pe_callB call_len rfl gLen boot_len (pa_cons (pv 0) pa_nil)) (pv 3)))) (pa_cons (pe_call GO hr rfl gO FO.kp bO .nil pass0 (pa_cons (pv 2) (pa_cons (pe_un un_neg (pv 3)) pa_nil))) pa_nil))))))), ?_⟩
    walk_at "rd"
    refine ⟨b, U, rfl, hU, hne, oU, fun H4 ps k s4 sh hs => ?_⟩
    walk_at "rd"
    refine ⟨a, ps, L, U.take k, rfl, hL.ext s4, hs, sh.ne, oL.few, (oU.take k).few, fun m mn => ?_⟩
    walk_at "rd"
    refine ⟨_, _, rfl, .inr ⟨_, hL.ext s4, by rw [List.length_map]⟩, ?_⟩
    walk_at "rd"
    have em : (L.length : Int) - (m : Int) = ((L.length - m : Nat) : Int) := by have := mn.le; omega
    rw [em]
    refine Rd.slA (hL.ext s4) fun p1 H6 s6 h1 => ?_
    rw [Rd.cut_to, ← List.map_take] at h1
    walk_at "rd"
    refine ⟨ps, U.take k, _, rfl, hs.ext s6, sh.ne, (oU.take k).few, fun H9 p3 r s9 rl re h3 => ?_⟩
    walk_at "rd"
    refine ⟨Rd.small (by show 2 ≤ 100000; decide), fun t nt => ?_⟩
    have st := same_new (o := HO.tup [V.ref p1, V.ref p3]) nt
    have n0 : 0 < (U.take k).length := List.length_pos_iff.mpr sh.ne
    have rm : (r + m) % (U.take k).length = 0 := by
      have z : ((r : Int) + (m : Int)) % ((U.take k).length : Int) = 0 := by
        rw [re, Int.emod_add_emod, Int.add_left_neg, Int.zero_emod]
      have y : (((r + m) % (U.take k).length : Nat) : Int) = ((0 : Nat) : Int) := z
      exact Int.ofNat.inj y
    obtain ⟨nf, sq⟩ := M23.nf_prog (T := U) (L := L) sh.ne sh.prim sh.sq mn.le rl rm mn.all mn.stop
    exact q _ t p1 p3 _ _ (s4.trans (s6.trans (s9.trans st))) (SqT.of upd_same) ((h1.ext s9).ext st) (h3.ext st) nf sq (oL.take _) ((oU.take k).rot r)
end
end K23

namespace K23
open PySem PySem.Spec PyProof.Rows L2
local macro_rules | `(tactic| walk_at "rd1") => `(tactic| first
  | (with_reducible refine Rd.seq ?_) | (with_reducible refine Rd.asg ?_) | (with_reducible refine Rd.ret ?_) | (with_reducible refine Rd.nxt ?_) | (with_reducible refine Rd.ifS ?_)
  | (with_reducible refine Rd.op ?_) | (with_reducible refine Rd.un ?_) | (with_reducible refine Rd.cb ?_) | (with_reducible refine Rd.cons ?_) | (with_reducible refine Rd.nil ?_) | (with_reducible refine Rd.ifx ?_)
  | (with_reducible refine Rd.test ?_) | (with_reducible refine Rd.testB ?_) | (with_reducible refine Rd.notT ?_) | (with_reducible refine Rd.isB ?_) | (with_reducible refine Rd.lst ?_) | (with_reducible refine Rd.tup ?_)
  | (with_reducible refine Rd.andV ?_) | (with_reducible refine Rd.orV ?_) | (with_reducible refine Rd.notV ?_) | (with_reducible refine Rd.andT ?_) | (with_reducible refine Rd.orT ?_) | (with_reducible refine Rd.chain ?_)
  | (with_reducible refine Rd.m0 ?_) | (with_reducible refine Rd.m1 ?_) | (with_reducible refine Rd.bm0 ?_) | (with_reducible refine Rd.bm ?_) | (with_reducible refine Rd.sl ?_) | (with_reducible refine Rd.part ?_) | (with_reducible refine Rd.part0 ?_) | (with_reducible refine Rd.isI ?_)
  | (with_reducible refine Rd.fmt ?_) | (with_reducible refine Rd.fmtRD ?_) | (with_reducible refine Rd.meth ?_) | (with_reducible refine Rd.make ?_) | (with_reducible refine Rd.prop ?_) | (with_reducible refine Rd.js ?_) | (with_reducible refine Rd.js0 ?_) | (with_reducible refine Rd.par ?_) | (with_reducible refine Rd.star ?_) | (with_reducible refine lcR1 ?_) | (with_reducible refine lcR2 ?_) | (with_reducible refine Rd.fld ?_) | (with_reducible refine Rd.sfld ?_) | (with_reducible refine Rd.expr ?_) | (with_reducible refine L2.isNR ?_) | (with_reducible refine L2.methI ?_) | (with_reducible refine Rd.forZ ?_)
  | (with_reducible refine Rd.forEA ?_) | (with_reducible refine Rd.forR1 ?_) | (with_reducible refine Rd.forR2 ?_) | (with_reducible refine Rd.forL ?_) | (with_reducible refine Rd.forT ?_)
  | (with_reducible refine Rd.call ?_) | (with_reducible refine Rd.asgG ?_) | (with_reducible refine Rd.gNm ?_) | (with_reducible refine Rd.gSb ?_) | (with_reducible refine Rd.gC ?_) | (with_reducible refine Rd.gN ?_)
  | ((with_reducible refine' Rd.var ?hv ?_); (case hv => exact rfl)) | (with_reducible refine Rd.c ?_) | (with_reducible refine Rd.i0 ?_) | (with_reducible refine Rd.neg ?_)
  | ((with_reducible refine' Rd.iC ?hc ?_); (case hc => first | (show (0 : Int) < _; decide) | exact ⟨by decide, by decide⟩ | exact ⟨by decide, by decide, by decide⟩ | exact .inl ⟨by decide, by decide⟩ | exact .inr ⟨by decide, by decide⟩ | exact .inl ⟨by omega, by omega⟩ | (show (0 : Int) < _; omega) | exact ⟨by omega, by omega⟩))
  | ((with_reducible refine' Rd.eqS ?hc ?_); (case hc => rfl)) | ((with_reducible refine' Rd.neS ?hc ?_); (case hc => rfl)))
local macro_rules | `(tactic| walk_at "rd") => `(tactic| repeat walk_at "rd1")
/-- the class of fills, as the text's top has written it -/
structure Fc (K : PySem.W.Frag) (mg : Str → Option Value) (C : Addr) : Prop where
  cl : Cls K C
  nL : NoAttr K C "_lead"
  nT : NoAttr K C "_turn"
  gC : mg "Fill" = some (.ref C)
  hcl : PySem.W.findIn K (.ref C) "__class__" = some (some (.builtin "object.__class__"))
  hgt : PySem.W.specialIn K (.builtin "object.__class__") "__get__" = some (some (.builtin "getset_descriptor.__get__"))
  htk : PySem.W.takesIn K (.builtin "object.__class__") = some true
  hmo : PySem.W.mroIn K C (.type "object") = some true
  k1 : PySem.W.kitOne K (.ref C) (.ref C) = some true
  k0 : PySem.W.kitOne K (.type "tuple") (.ref C) = some false
/-- a method of it, by its place -/
def sMeth (j : Nat) : Stmt := inClass (topA iFill) j
/-- lists and tuples that stand elsewhere stay -/
theorem Sq.but {K : PySem.W.Frag} {H H' : Hp} {x a C dx : Addr} {fs : List (Str × V)} {l : List Str} (h : Sq K H a l) (hx : H x = some (.ins C dx fs)) (b : But x H H') : Sq K H' a l := by
  have ne : ∀ {o : HO}, H a = some o → (∀ C dx fs, o ≠ .ins C dx fs) → a ≠ x := fun e n z => by
    rw [z, hx] at e
    cases e
    exact n _ _ _ rfl
  rcases h with h | h
  · rcases h with (h | ⟨o, h⟩) | h
    · exact .inl (.inl (.inl (b _ _ (ne h fun _ _ _ z => by cases z) h)))
    · exact .inl (.inl (.inr ⟨o, b _ _ (ne h fun _ _ _ z => by cases z) h⟩))
    · exact .inl (.inr h)
  · rcases h with (h | ⟨o, h⟩) | h
    · exact .inr (.inl (.inl (b _ _ (ne h fun _ _ _ z => by cases z) h)))
    · exact .inr (.inl (.inr ⟨o, b _ _ (ne h fun _ _ _ z => by cases z) h⟩))
    · exact .inr (.inr h)
theorem tup_but {K : PySem.W.Frag} {H H' : Hp} {x a C dx : Addr} {fs : List (Str × V)} {l : List Str} (h : SqT K H a (l.map V.str)) (hx : H x = some (.ins C dx fs)) (b : But x H H') : SqT K H' a (l.map V.str) := by
  have ne : ∀ {o : HO}, H a = some o → (∀ C dx fs, o ≠ .ins C dx fs) → a ≠ x := fun e n z => by
    rw [z, hx] at e
    cases e
    exact n _ _ _ rfl
  rcases h with (h | ⟨o, h⟩) | h
  · exact .inl (.inl (b _ _ (ne h fun _ _ _ z => by cases z) h))
  · exact .inl (.inr ⟨o, b _ _ (ne h fun _ _ _ z => by cases z) h⟩)
  · exact .inr h
theorem but_of {x : Addr} {H H' : Hp} (s : Same H H') : But x H H' := fun b o _ h => s b o h
/-- tuple(x) of a list or a tuple of texts -/
def rTupN (K : PySem.W.Frag) : List V → Hp → VK → Prop := fun xs H Q => ∃ (a : Addr) (l : List Str), xs = [.ref a] ∧ Sq K H a l ∧ ∀ (p : Addr) (H' : Hp), Same H H' → SqT K H' p (l.map V.str) → Q (.ref p) H'
theorem call_tupN {X : Cx} : CallR X (.type "tuple") (rTupN X.K) := by
  intro pins s σ H xs us Q I r h
  obtain ⟨a, l, rfl, h, q⟩ := h
  refine call_tuple_of pins s σ H [.ref a] us Q I r ⟨a, l.map V.str, rfl, ?_⟩
  rcases h with h | h
  · exact .inl ⟨h, fun p hp => q p _ (same_new hp) (SqT.of upd_same)⟩
  · exact .inr ⟨h, q a H (Same.refl _) h⟩
/-- what stands between two places -/
def cutL (l : List Str) (lo hi : Option Int) : List Str := (l.drop (HT.sIx l.length 0 lo)).take (HT.sIx l.length l.length hi - HT.sIx l.length 0 lo)
theorem cutL_map (l : List Str) (lo hi : Option Int) : cutV (l.map V.str) lo hi = (cutL l lo hi).map V.str := by
  unfold cutV cutL
  rw [List.length_map, List.map_take, List.map_drop]
/-- x[lo:hi] of a list or a tuple of texts -/
def rSlN (K : PySem.W.Frag) : V → Option Int → Option Int → Hp → VK → Prop := fun x lo hi H Q => ∃ (a : Addr) (l : List Str), x = .ref a ∧ Sq K H a l ∧ ∀ (p : Addr) (H' : Hp), Same H H' → Sq K H' p (cutL l lo hi) → Q (.ref p) H'
theorem sl_N {X : Cx} : SlR X (rSlN X.K) := by
  intro pins s σ H x v vl vu lo hi sl Q I rx hs pl pu h
  obtain ⟨a, l, rfl, h, q⟩ := h
  rcases h with h | h
  · exact sl_list pins s σ H _ v vl vu lo hi sl Q I rx hs pl pu (Rd.slL h fun p H' _ s1 e => q p H' s1 (.inl (by rw [← cutL_map]; exact SqL.of e)))
  · exact sl_tupA pins s σ H _ v vl vu lo hi sl Q I rx hs pl pu (Rd.slA h fun p H' s1 e => q p H' s1 (.inr (by rw [← cutL_map]; exact e)))
theorem cutL_to {l : List Str} {k : Nat} : cutL l none (some (k : Int)) = l.take k := by
  unfold cutL
  rw [HT.sIx_nat, HT.sIx_none, List.drop_zero, Nat.sub_zero]
  by_cases h : k ≤ l.length
  · rw [Nat.min_eq_left h]
  · rw [Nat.min_eq_right (by omega), List.take_length, List.take_of_length_le (by omega)]
theorem cutL_from {l : List Str} {k : Nat} (h : k ≤ l.length) : cutL l (some (k : Int)) none = l.drop k := by
  unfold cutL
  rw [HT.sIx_nat, HT.sIx_none, Nat.min_eq_left h, List.take_of_length_le (by rw [List.length_drop]; omega)]
def spInit (K : PySem.W.Frag) (C : Addr) : Sp := fun vs H Q _ => ∃ (x dx a b : Addr) (L T : List Str), vs = [.ref x, .ref a, .ref b] ∧ H x = some (.ins C dx []) ∧ Sq K H a L ∧ Sq K H b T ∧ Ok L ∧ Ok T ∧ T ≠ [] ∧
  ∀ (H' : Hp) (p q : Addr) (L' T' : List Str), But x H H' → H' x = some (.ins C dx [("_lead", .ref p), ("_turn", .ref q)]) → SqT K H' p (L'.map V.str) → SqT K H' q (T'.map V.str) → M23.Nf L' T' → (∀ i, M23.sq L' T' i = M23.sq L T i) → Ok L' → Ok T' → Q .non H'
section
variable {P : Program} {w : World} {K : PySem.W.Frag} {mg : Str → Option Value} {base : Heap} {C f fC fS fM fO : Addr} {fd fdC fdS fdM fdO : FuncData}
abbrev sInit : Stmt := sMeth 0
theorem scInit : FnScope ["self", "lead", "turn"] ["self", "lead", "turn"] (defScope sInit) := ⟨rfl, rfl, rfl, by decide +kernel, rfl, by decide +kernel, by decide +kernel⟩
theorem ok_init (F : FunD K "__init__" "Fill.__init__" (defArgs sInit) (defBody sInit) (defScope sInit) [] [] f fd) (T : Fc K mg C) (FC : FnP K "_check_part" sCheck fC fdC) (FN : FnP K "normal_form" sNf fS fdS)
    (GC : FnOk P w K mg base CX0 2 fC fdC ["part", "names", "least"] (spCheck K)) (GN : FnOk P w K mg base CX0 2 fS fdS ["lead", "turn"] (spNf K))
    (gC : mg "_check_part" = some (.ref fC)) (gN : mg "normal_form" = some (.ref fS)) (gTup : mg "tuple" = none) :
    FnOk P w K mg base CX0 3 f fd ["self", "lead", "turn"] (spInit K C) := by
  have bC : Binds K fdC ["part", "names", "least"] [] := FC.bindsN fun _ _ _ _ _ _ us hl => match us, hl with | [_, _, _], _ => rfl
  have bN : Binds K fdS ["lead", "turn"] [] := FN.bindsN fun _ _ _ _ _ _ us hl => match us, hl with | [_, _], _ => rfl
  refine F.ok scInit (fun vs H Q E h => ?_) (fun cdv A outer s H vs Q E hr h => ?_)
  · obtain ⟨x, dx, a, b, L, T, rfl, _⟩ := h
    rfl
  · obtain ⟨x, dx, a, b, L, U, rfl, hx, hL, hU, oL, oU, hne, q⟩ := h
    refine ⟨_, PSs.nox (pss_cons (ps_expr (pe_call GC hr rfl gC FC.kp bC .nil pass0 (pa_cons pe_str (pa_cons (pv 1) (pa_cons pe_int pa_nil)))))
      (pss_cons (ps_expr (pe_call GC hr rfl gC FC.kp bC .nil pass0 (pa_cons pe_str (pa_cons (pv 2) (pa_cons pe_int pa_nil)))))
      (pss_one (ps_asg (pe_call GN hr rfl gN FN.kp bN .nil pass0 (pa_cons (pe_callTy call_tupN rfl gTup (by decide +kernel) (pa_cons (pv 1) pa_nil)) (pa_cons (pe_callTy call_tupN rfl gTup (by decide +kernel) (pa_cons (pv 2) pa_nil)) pa_nil)))
        (pg_tup rfl (pgs_cons (pg_fld (pv 0)) (pgs_cons (pg_fld (pv 0)) pgs_nil))))))), ?_⟩
    walk_at "rd"
    refine ⟨a, L, "lead", 0, rfl, hL, oL, Nat.zero_le _, fun H1 s1 => ?_⟩
    walk_at "rd"
    refine ⟨b, U, "turn", 1, rfl, hU.same s1, oU, List.length_pos_iff.mpr hne, fun H2 s2 => ?_⟩
    walk_at "rd"
    have s02 := s1.trans s2
    refine ⟨a, L, rfl, hL.same s02, fun pl H3 s3 hl => ?_⟩
    walk_at "rd"
    refine ⟨b, U, rfl, hU.same (s02.trans s3), fun pu H4 s4 hu => ?_⟩
    walk_at "rd"
    refine ⟨pl, pu, L, U, rfl, hl.ext s4, hu, oL, oU, hne, fun H5 r p q' L' T' s5 hr5 hp5 hq5 nf sq o1 o2 => ?_⟩
    have s05 := s02.trans (s3.trans (s4.trans s5))
    have x5 := s05 _ _ hx
    refine ⟨r, _, rfl, hr5, rfl, ?_⟩
    refine ⟨_, _, rfl, ?_⟩
    refine Rd.gF ?_
    walk_at "rd"
    refine ⟨x, C, dx, [], rfl, x5, T.cl, T.nL, by decide, ?_⟩
    have x8 := upd_same (H := H5) (a := x) (o := HO.ins C dx (putF "_lead" (.ref p) []))
    have b8 := But.set (p := x) (H := H5) (o := HO.ins C dx (putF "_lead" (.ref p) []))
    generalize upd H5 x (HO.ins C dx (putF "_lead" (.ref p) [])) = H8 at x8 b8 ⊢
    refine ⟨_, _, rfl, ?_⟩
    refine Rd.gF ?_
    walk_at "rd"
    refine ⟨x, C, dx, _, rfl, x8, T.cl, T.nT, (by decide : 1 < 1000), ?_⟩
    have x10 := upd_same (H := H8) (a := x) (o := HO.ins C dx (putF "_turn" (.ref q') (putF "_lead" (.ref p) [])))
    have b10 := But.set (p := x) (H := H8) (o := HO.ins C dx (putF "_turn" (.ref q') (putF "_lead" (.ref p) [])))
    generalize upd H8 x (HO.ins C dx (putF "_turn" (.ref q') (putF "_lead" (.ref p) []))) = H10 at x10 b10 ⊢
    refine ⟨rfl, ?_⟩
    exact q H10 p q' _ _ ((but_of s05).trans (b8.trans b10)) x10 (tup_but (tup_but hp5 x5 b8) x8 b10) (tup_but (tup_but hq5 x5 b8) x8 b10) nf sq o1 o2
end
end K23

namespace K23
open PySem PySem.Spec PyProof.Rows L2
local macro_rules | `(tactic| walk_at "rd1") => `(tactic| first
  | (with_reducible refine Rd.seq ?_) | (with_reducible refine Rd.asg ?_) | (with_reducible refine Rd.ret ?_) | (with_reducible refine Rd.nxt ?_) | (with_reducible refine Rd.ifS ?_)
  | (with_reducible refine Rd.op ?_) | (with_reducible refine Rd.un ?_) | (with_reducible refine Rd.cb ?_) | (with_reducible refine Rd.cons ?_) | (with_reducible refine Rd.nil ?_) | (with_reducible refine Rd.ifx ?_)
  | (with_reducible refine Rd.test ?_) | (with_reducible refine Rd.testB ?_) | (with_reducible refine Rd.notT ?_) | (with_reducible refine Rd.isB ?_) | (with_reducible refine Rd.lst ?_) | (with_reducible refine Rd.tup ?_)
  | (with_reducible refine Rd.andV ?_) | (with_reducible refine Rd.orV ?_) | (with_reducible refine Rd.notV ?_) | (with_reducible refine Rd.andT ?_) | (with_reducible refine Rd.orT ?_) | (with_reducible refine Rd.chain ?_)
  | (with_reducible refine Rd.m0 ?_) | (with_reducible refine Rd.m1 ?_) | (with_reducible refine Rd.bm0 ?_) | (with_reducible refine Rd.bm ?_) | (with_reducible refine Rd.sl ?_) | (with_reducible refine Rd.part ?_) | (with_reducible refine Rd.part0 ?_) | (with_reducible refine Rd.isI ?_)
  | (with_reducible refine Rd.fmt ?_) | (with_reducible refine Rd.fmtRD ?_) | (with_reducible refine Rd.meth ?_) | (with_reducible refine Rd.make ?_) | (with_reducible refine Rd.prop ?_) | (with_reducible refine Rd.js ?_) | (with_reducible refine Rd.js0 ?_) | (with_reducible refine Rd.par ?_) | (with_reducible refine Rd.star ?_) | (with_reducible refine lcR1 ?_) | (with_reducible refine lcR2 ?_) | (with_reducible refine Rd.fld ?_) | (with_reducible refine Rd.sfld ?_) | (with_reducible refine Rd.expr ?_) | (with_reducible refine L2.isNR ?_) | (with_reducible refine L2.methI ?_) | (with_reducible refine Rd.forZ ?_)
  | (with_reducible refine Rd.forEA ?_) | (with_reducible refine Rd.forR1 ?_) | (with_reducible refine Rd.forR2 ?_) | (with_reducible refine Rd.forL ?_) | (with_reducible refine Rd.forT ?_)
  | (with_reducible refine Rd.call ?_) | (with_reducible refine Rd.asgG ?_) | (with_reducible refine Rd.gNm ?_) | (with_reducible refine Rd.gSb ?_) | (with_reducible refine Rd.gC ?_) | (with_reducible refine Rd.gN ?_)
  | ((with_reducible refine' Rd.var ?hv ?_); (case hv => exact rfl)) | (with_reducible refine Rd.c ?_) | (with_reducible refine Rd.i0 ?_) | (with_reducible refine Rd.neg ?_)
  | ((with_reducible refine' Rd.iC ?hc ?_); (case hc => first | (show (0 : Int) < _; decide) | exact ⟨by decide, by decide⟩ | exact ⟨by decide, by decide, by decide⟩ | exact .inl ⟨by decide, by decide⟩ | exact .inr ⟨by decide, by decide⟩ | exact .inl ⟨by omega, by omega⟩ | (show (0 : Int) < _; omega) | exact ⟨by omega, by omega⟩))
  | ((with_reducible refine' Rd.eqS ?hc ?_); (case hc => rfl)) | ((with_reducible refine' Rd.neS ?hc ?_); (case hc => rfl)))
local macro_rules | `(tactic| walk_at "rd") => `(tactic| repeat walk_at "rd1")
/-- a fill stands at a, with this lead and this turn -/
def FillAt (K : PySem.W.Frag) (C : Addr) (H : Hp) (a : Addr) (L T : List Str) : Prop := ∃ dx p q, H a = some (.ins C dx [("_lead", .ref p), ("_turn", .ref q)]) ∧ SqT K H p (L.map V.str) ∧ SqT K H q (T.map V.str)
theorem FillAt.same {K : PySem.W.Frag} {C : Addr} {H H' : Hp} {a : Addr} {L T : List Str} (h : FillAt K C H a L T) (e : Same H H') : FillAt K C H' a L T := by
  obtain ⟨dx, p, q, a1, a2, a3⟩ := h
  exact ⟨dx, p, q, e _ _ a1, a2.ext e, a3.ext e⟩
/-- what every fill has -/
structure Nm (L T : List Str) : Prop where
  nf : M23.Nf L T
  oL : Ok L
  oT : Ok T
def spGet (K : PySem.W.Frag) (C : Addr) (isLead : Bool) : Sp := fun vs H Q _ => ∃ (a : Addr) (L T : List Str), vs = [.ref a] ∧ FillAt K C H a L T ∧ ∀ p, SqT K H p ((if isLead then L else T).map V.str) → Q (.ref p) H
def spKind (K : PySem.W.Frag) (C : Addr) : Sp := fun vs H Q _ => ∃ (a : Addr) (L T : List Str) (k : Nat), vs = [.ref a, .int ((k : Int) + 1)] ∧ FillAt K C H a L T ∧ T ≠ [] ∧ (k : Int) + 1 ≤ 10 ^ 60 ∧ ∀ x, M23.sq L T k = some x → Q (.str x) H
section
variable {P : Program} {w : World} {K : PySem.W.Frag} {mg : Str → Option Value} {base : Heap} {C f fB fT : Addr} {fd fdB fdT : FuncData}
abbrev sLead : Stmt := sMeth 2
abbrev sTurn : Stmt := sMeth 3
abbrev sKind : Stmt := sMeth 4
theorem scLead : FnScope ["self"] ["self"] (defScope sLead) := ⟨rfl, rfl, rfl, by decide +kernel, rfl, by decide +kernel, by decide +kernel⟩
theorem scTurn : FnScope ["self"] ["self"] (defScope sTurn) := ⟨rfl, rfl, rfl, by decide +kernel, rfl, by decide +kernel, by decide +kernel⟩
theorem ok_lead (F : FunD K "lead" "Fill.lead" (defArgs sLead) (defBody sLead) (defScope sLead) [] [] f fd) (T : Fc K mg C) : FnOk P w K mg base CX0 1 f fd ["self"] (spGet K C true) := by
  refine F.ok scLead (fun vs H Q E h => ?_) (fun cdv A outer s H vs Q E hr h => ?_)
  · obtain ⟨a, L, U, rfl, _⟩ := h
    rfl
  · obtain ⟨a, L, U, rfl, ⟨dx, p, r, ha, hp, hr'⟩, q⟩ := h
    refine ⟨_, PSs.nox (pss_one (ps_ret (pe_fld (pv 0) rfl))), ?_⟩
    walk_at "rd"
    exact ⟨a, C, dx, _, _, rfl, ha, T.cl, T.nL, rfl, q p hp⟩
theorem ok_turn (F : FunD K "turn" "Fill.turn" (defArgs sTurn) (defBody sTurn) (defScope sTurn) [] [] f fd) (T : Fc K mg C) : FnOk P w K mg base CX0 1 f fd ["self"] (spGet K C false) := by
  refine F.ok scTurn (fun vs H Q E h => ?_) (fun cdv A outer s H vs Q E hr h => ?_)
  · obtain ⟨a, L, U, rfl, _⟩ := h
    rfl
  · obtain ⟨a, L, U, rfl, ⟨dx, p, r, ha, hp, hr'⟩, q⟩ := h
    refine ⟨_, PSs.nox (pss_one (ps_ret (pe_fld (pv 0) rfl))), ?_⟩
    walk_at "rd"
    exact ⟨a, C, dx, _, _, rfl, ha, T.cl, T.nT, rfl, q r hr'⟩
theorem scKind : FnScope ["self", "row"] ["self", "row"] (defScope sKind) := ⟨rfl, rfl, rfl, by decide +kernel, rfl, by decide +kernel, by decide +kernel⟩
theorem ok_kind (F : FunD K "kind_at" "Fill.kind_at" (defArgs sKind) (defBody sKind) (defScope sKind) [] [] f fd) (T : Fc K mg C) (G : Gs K mg) (FB : FnP K "is_between" sBetween fB fdB) (GB : FnOk P w K mg base CX0 1 fB fdB ["value", "low", "high"] spBetween) (gB : mg "is_between" = some (.ref fB))
    (FT : FnP K "told_at" sTold fT fdT) (GT : FnOk P w K mg base CX0 1 fT fdT ["lead", "turn", "position"] (spTold K)) (gT : mg "told_at" = some (.ref fT)) :
    FnOk P w K mg base CX0 2 f fd ["self", "row"] (spKind K C) := by
  have bB : Binds K fdB ["value", "low", "high"] [] := FB.bindsN fun _ _ _ _ _ _ us hl => match us, hl with | [_, _, _], _ => rfl
  have bT : Binds K fdT ["lead", "turn", "position"] [] := FT.bindsN fun _ _ _ _ _ _ us hl => match us, hl with | [_, _, _], _ => rfl
  obtain ⟨tl, gLR⟩ := G.lr
  refine F.ok scKind (fun vs H Q E h => ?_) (fun cdv A outer s H vs Q E hr h => ?_)
  · obtain ⟨a, L, U, k, rfl, _⟩ := h
    rfl
  · obtain ⟨a, L, U, k, rfl, ⟨dx, p, r, ha, hp, hr'⟩, hne, hk, q⟩ := h
    refine ⟨_, PSs.nox (pss_cons (ps_if (pt_not (pt_val (pe_call GB hr rfl gB FB.kp bB .nil pass0 (pa_cons (pv 1) (pa_cons pe_int (pa_cons (pe_glob rfl gLR (v := .int (10 ^ 60)) ⟨_, rfl⟩) pa_nil)))))) (pss_one ps_never) pss_nil)
      (pss_one (ps_ret (pe_call GT hr rfl gT FT.kp bT .nil pass0 (pa_cons (pe_fld (pv 0) rfl) (pa_cons (pe_fld (pv 0) rfl) (pa_cons (pe_op op_sub (pv 1) pe_int) pa_nil))))))), ?_⟩
    walk_at "rd"
    refine ⟨_, _, _, rfl, ?_⟩
    rw [decide_eq_true (show (1 : Int) ≤ (k : Int) + 1 by omega), decide_eq_true hk]
    walk_at "rd"
    refine iteF ?_
    walk_at "rd"
    refine ⟨a, C, dx, _, _, rfl, ha, T.cl, T.nL, rfl, ?_⟩
    walk_at "rd"
    refine ⟨a, C, dx, _, _, rfl, ha, T.cl, T.nT, rfl, ?_⟩
    walk_at "rd"
    exact ⟨p, r, L, U, k, by rw [show (k : Int) + 1 - 1 = (k : Int) by omega]; rfl, hp, hr', hne, q⟩
end
end K23

namespace K23
open PySem PySem.Spec PyProof.Rows L2
local macro_rules | `(tactic| walk_at "rd1") => `(tactic| first
  | (with_reducible refine Rd.seq ?_) | (with_reducible refine Rd.asg ?_) | (with_reducible refine Rd.ret ?_) | (with_reducible refine Rd.nxt ?_) | (with_reducible refine Rd.ifS ?_)
  | (with_reducible refine Rd.op ?_) | (with_reducible refine Rd.un ?_) | (with_reducible refine Rd.cb ?_) | (with_reducible refine Rd.cons ?_) | (with_reducible refine Rd.nil ?_) | (with_reducible refine Rd.ifx ?_)
  | (with_reducible refine Rd.test ?_) | (with_reducible refine Rd.testB ?_) | (with_reducible refine Rd.notT ?_) | (with_reducible refine Rd.isB ?_) | (with_reducible refine Rd.lst ?_) | (with_reducible refine Rd.tup ?_)
  | (with_reducible refine Rd.andV ?_) | (with_reducible refine Rd.orV ?_) | (with_reducible refine Rd.notV ?_) | (with_reducible refine Rd.andT ?_) | (with_reducible refine Rd.orT ?_) | (with_reducible refine Rd.chain ?_)
  | (with_reducible refine Rd.m0 ?_) | (with_reducible refine Rd.m1 ?_) | (with_reducible refine Rd.bm0 ?_) | (with_reducible refine Rd.bm ?_) | (with_reducible refine Rd.sl ?_) | (with_reducible refine Rd.part ?_) | (with_reducible refine Rd.part0 ?_) | (with_reducible refine Rd.isI ?_)
  | (with_reducible refine Rd.fmt ?_) | (with_reducible refine Rd.fmtRD ?_) | (with_reducible refine Rd.meth ?_) | (with_reducible refine Rd.make ?_) | (with_reducible refine Rd.prop ?_) | (with_reducible refine Rd.js ?_) | (with_reducible refine Rd.js0 ?_) | (with_reducible refine Rd.par ?_) | (with_reducible refine Rd.star ?_) | (with_reducible refine lcR1 ?_) | (with_reducible refine lcR2 ?_) | (with_reducible refine Rd.fld ?_) | (with_reducible refine Rd.sfld ?_) | (with_reducible refine Rd.expr ?_) | (with_reducible refine L2.isNR ?_) | (with_reducible refine L2.methI ?_) | (with_reducible refine Rd.forZ ?_)
  | (with_reducible refine Rd.forEA ?_) | (with_reducible refine Rd.forR1 ?_) | (with_reducible refine Rd.forR2 ?_) | (with_reducible refine Rd.forL ?_) | (with_reducible refine Rd.forT ?_)
  | (with_reducible refine Rd.call ?_) | (with_reducible refine Rd.asgG ?_) | (with_reducible refine Rd.gNm ?_) | (with_reducible refine Rd.gSb ?_) | (with_reducible refine Rd.gC ?_) | (with_reducible refine Rd.gN ?_)
  | ((with_reducible refine' Rd.var ?hv ?_); (case hv => exact rfl)) | (with_reducible refine Rd.c ?_) | (with_reducible refine Rd.i0 ?_) | (with_reducible refine Rd.neg ?_)
  | ((with_reducible refine' Rd.iC ?hc ?_); (case hc => first | (show (0 : Int) < _; decide) | exact ⟨by decide, by decide⟩ | exact ⟨by decide, by decide, by decide⟩ | exact .inl ⟨by decide, by decide⟩ | exact .inr ⟨by decide, by decide⟩ | exact .inl ⟨by omega, by omega⟩ | (show (0 : Int) < _; omega) | exact ⟨by omega, by omega⟩))
  | ((with_reducible refine' Rd.eqS ?hc ?_); (case hc => rfl)) | ((with_reducible refine' Rd.neS ?hc ?_); (case hc => rfl)))
local macro_rules | `(tactic| walk_at "rd") => `(tactic| repeat walk_at "rd1")
def spFirst (K : PySem.W.Frag) (C : Addr) : Sp := fun vs H Q _ => ∃ (a : Addr) (L T : List Str) (n : Nat), vs = [.ref a, .int n] ∧ FillAt K C H a L T ∧ T ≠ [] ∧ n ≤ 2000 ∧
  ∀ (D : Addr) (H' : Hp) (l : List Str), H D = none → Same H H' → H' D = some (.lst (l.map V.str)) → l.length = n → (∀ k, k < n → l[k]? = M23.sq L T k) → Q (.ref D) H'
def spBehindF (K : PySem.W.Frag) (C : Addr) : Sp := fun vs H Q _ => ∃ (a : Addr) (L T : List Str) (m : Nat), vs = [.ref a, .int m] ∧ FillAt K C H a L T ∧ Nm L T ∧ (m : Int) ≤ 10 ^ 60 ∧
  ∀ (x : Addr) (H' : Hp) (L' T' : List Str), H x = none → Same H H' → FillAt K C H' x L' T' → Nm L' T' → (∀ i, M23.sq L' T' i = M23.sq L T (i + m)) → Q (.ref x) H'
def spEqF (K : PySem.W.Frag) (C : Addr) : Sp := fun vs H Q _ => ∃ (a : Addr) (y : V) (L T : List Str), vs = [.ref a, y] ∧ FillAt K C H a L T ∧ Ok L ∧ Ok T ∧
  ((∃ (b : Addr) (L' T' : List Str), y = .ref b ∧ FillAt K C H b L' T' ∧ Ok L' ∧ Ok T' ∧ Q (.bl (decide (L = L') && decide (T = T'))) H) ∨ (TyX K H y (.type "tuple") ∧ Q (.bl false) H))
theorem same_make {H : Hp} {x dx C : Addr} (nx : H x = none) (nd : H dx = none) (ne : dx ≠ x) : Same H (upd (upd H dx (.own x)) x (.ins C dx [])) :=
  (same_new nd).trans (same_new (by rw [upd_ne ne.symm]; exact nx))
theorem same_but {H H0 H' : Hp} {x : Addr} (s : Same H H0) (nx : H x = none) (b : But x H0 H') : Same H H' := fun c o e => b c o (ne_of_none e nx) (s c o e)
/-- Fill(lead, turn): a new one -/
theorem mkFill {K : PySem.W.Frag} {C : Addr} {H : Hp} {Q : VK} {E : XK} {a b : Addr} {L T : List Str} (hL : Sq K H a L) (hT : Sq K H b T) (oL : Ok L) (oT : Ok T) (hne : T ≠ [])
    (q : ∀ (x : Addr) (H' : Hp) (L' T' : List Str), H x = none → Same H H' → FillAt K C H' x L' T' → Nm L' T' → (∀ i, M23.sq L' T' i = M23.sq L T i) → Q (.ref x) H') :
    ∀ x dx, H x = none → H dx = none → dx ≠ x → spInit K C [.ref x, .ref a, .ref b] (upd (upd H dx (.own x)) x (.ins C dx [])) (fun v H2 => v = .non ∧ Q (.ref x) H2) E := fun x dx nx nd ne =>
  ⟨x, dx, a, b, L, T, rfl, upd_same, hL.same (same_make nx nd ne), hT.same (same_make nx nd ne), oL, oT, hne, fun H' p r L' T' bt hx hp hr nf sq o1 o2 =>
    ⟨rfl, q x H' L' T' nx (same_but (same_make nx nd ne) nx bt) ⟨dx, p, r, hx, hp, hr⟩ ⟨nf, o1, o2⟩ sq⟩⟩
section
variable {P : Program} {w : World} {K : PySem.W.Frag} {mg : Str → Option Value} {base : Heap} {C f fB fK fI fO : Addr} {fd fdB fdK fdI fdO : FuncData}
abbrev sFirst : Stmt := sMeth 5
abbrev sBehindM : Stmt := sMeth 6
abbrev sEqM : Stmt := sMeth 7
theorem scFirst : FnScope ["self", "many", "row"] ["self", "many"] (defScope sFirst) := ⟨rfl, rfl, rfl, by decide +kernel, rfl, by decide +kernel, by decide +kernel⟩
theorem ok_first (F : FunD K "first" "Fill.first" (defArgs sFirst) (defBody sFirst) (defScope sFirst) [] [] f fd) (T : Fc K mg C) (G : Gs K mg) (FB : FnP K "is_between" sBetween fB fdB) (GB : FnOk P w K mg base CX0 1 fB fdB ["value", "low", "high"] spBetween) (gB : mg "is_between" = some (.ref fB))
    (FK : FunD K "kind_at" "Fill.kind_at" (defArgs sKind) (defBody sKind) (defScope sKind) [] [] fK fdK) (GK : FnOk P w K mg base CX0 2 fK fdK ["self", "row"] (spKind K C)) (mK : Meth K C "kind_at" fK) (gRange : mg "range" = none) :
    FnOk P w K mg base CX0 3 f fd ["self", "many"] (spFirst K C) := by
  have bB : Binds K fdB ["value", "low", "high"] [] := FB.bindsN fun _ _ _ _ _ _ us hl => match us, hl with | [_, _, _], _ => rfl
  have bK : Binds K fdK ["self", "row"] [] := FK.bindsN fun _ _ _ _ _ _ us hl => match us, hl with | [_, _], _ => rfl
  obtain ⟨tl, gMF⟩ := G.mf
  refine F.ok scFirst (fun vs H Q E h => ?_) (fun cdv A outer s H vs Q E hr h => ?_)
  · obtain ⟨a, L, U, n, rfl, _⟩ := h
    rfl
  · obtain ⟨a, L, U, n, rfl, hF, hne, hn, q⟩ := h
    refine ⟨_, PSs.nox (pss_cons (ps_if (pt_not (pt_val (pe_call GB (hr.mono (by decide)) rfl gB FB.kp bB .nil pass0 (pa_cons (pv 1) (pa_cons pe_int (pa_cons (pe_glob rfl gMF (v := .int 2000) ⟨_, rfl⟩) pa_nil)))))) (pss_one ps_never) pss_nil)
      (pss_one (ps_ret (pe_lc (own := [("row", 2)]) (g := gName 2) (tt := tYes) (te := tMeth C "kind_at" (spKind K C) [] E0 (tVar 0) (tCons (tVar 2) tNil)) rfl scFirst.nd (pi_range2 rfl gRange (pa_cons pe_int (pa_cons (pe_op op_add (pv 1) pe_int) pa_nil)))
        (blkOk_by (N := ["self", "many", "row"]) (sc := defScope sFirst) (by decide +kernel)) (fun _ _ _ _ _ => by exact pg_name (i := 2) scFirst.nd rfl (Or.inl rfl)) (fun _ _ _ _ _ => by exact pts_nil) (fun _ _ _ _ _ => by exact pe_meth (pv 0) T.cl mK GK hr bK .nil pass0 (pa_cons (pv 2) pa_nil)))))), ?_⟩
    walk_at "rd"
    refine ⟨_, _, _, rfl, ?_⟩
    rw [decide_eq_true (show (0 : Int) ≤ (n : Int) by omega), decide_eq_true (show (n : Int) ≤ 2000 by omega)]
    walk_at "rd"
    refine iteF ?_
    walk_at "rd"
    refine ⟨1, (n : Int) + 1, rfl, ⟨by decide, by decide, by omega, by omega⟩, ?_⟩
    rw [show ((n : Int) + 1 - 1).toNat = n by omega]
    refine lcGen (fun k acc H2 => Same H H2 ∧ ∃ l : List Str, acc = l.map V.str ∧ l.length = k ∧ ∀ j, j < k → l[j]? = M23.sq L U j) rfl (by omega) ⟨Same.refl _, [], rfl, rfl, fun j h => by omega⟩ (fun k acc H2 D o nd j => ⟨fun b u e => by rw [upd_ne (ne_of_none e nd)]; exact j.1 b u e, j.2⟩) (fun k acc H2 Q' hk al j q' => ?_) (fun D acc H2 nD al j hD => ?_)
    · obtain ⟨s2, l, rfl, ll, ls⟩ := j
      obtain ⟨dx, p, r, ha, hp, hr'⟩ := hF.same s2
      walk_at "rd"
      refine ⟨a, dx, _, rfl, ha, rfl, ?_⟩
      walk_at "rd"
      refine ⟨a, L, U, k, by rw [Int.add_comm]; rfl, ⟨dx, p, r, ha, hp, hr'⟩, hne, by omega, fun x hx => q' _ _ (fun b o _ e => e) ⟨s2, l ++ [x], by rw [List.map_append]; rfl, by rw [List.length_append, ll]; rfl, fun j hj => ?_⟩⟩
      by_cases g : j < k
      · rw [List.getElem?_append_left (by omega), ls j g]
      · obtain rfl : j = k := by omega
        rw [List.getElem?_append_right (by omega), ll, Nat.sub_self, hx]
        rfl
    · obtain ⟨s2, l, rfl, ll, ls⟩ := j
      exact q D H2 l nD s2 hD ll ls
theorem scBehindM : FnScope ["self", "many"] ["self", "many"] (defScope sBehindM) := ⟨rfl, rfl, rfl, by decide +kernel, rfl, by decide +kernel, by decide +kernel⟩
theorem ok_behindM (F : FunD K "behind" "Fill.behind" (defArgs sBehindM) (defBody sBehindM) (defScope sBehindM) [] [] f fd) (T : Fc K mg C) (G : Gs K mg) (FB : FnP K "is_between" sBetween fB fdB) (GB : FnOk P w K mg base CX0 1 fB fdB ["value", "low", "high"] spBetween) (gB : mg "is_between" = some (.ref fB))
    (FI : FunD K "__init__" "Fill.__init__" (defArgs sInit) (defBody sInit) (defScope sInit) [] [] fI fdI) (GI : FnOk P w K mg base CX0 3 fI fdI ["self", "lead", "turn"] (spInit K C)) (M : Mk K C fI) (FO : FnP K "moved_on" sMoved fO fdO) (GO : FnOk P w K mg base CX0 1 fO fdO ["turn", "many"] (spMoved K)) (gO : mg "moved_on" = some (.ref fO)) (gLen : mg "len" = none) :
    FnOk P w K mg base CX0 5 f fd ["self", "many"] (spBehindF K C) := by
  have bB : Binds K fdB ["value", "low", "high"] [] := FB.bindsN fun _ _ _ _ _ _ us hl => match us, hl with | [_, _, _], _ => rfl
  have bI : Binds K fdI ["self", "lead", "turn"] [] := FI.bindsN fun _ _ _ _ _ _ us hl => match us, hl with | [_, _, _], _ => rfl
  have bO : Binds K fdO ["turn", "many"] [] := FO.bindsN fun _ _ _ _ _ _ us hl => match us, hl with | [_, _], _ => rfl
  obtain ⟨tl, gLR⟩ := G.lr
  refine F.ok scBehindM (fun vs H Q E h => ?_) (fun cdv A outer s H vs Q E hr h => ?_)
  · obtain ⟨a, L, U, m, rfl, _⟩ := h
    rfl
  · obtain ⟨a, L, U, m, rfl, ⟨dx, p, r, ha, hp, hr'⟩, nm, hm, q⟩ := h
    refine ⟨_, PSs.nox (pss_cons (ps_if (pt_not (pt_val (pe_call GB (hr.mono (by decide)) rfl gB FB.kp bB .nil pass0 (pa_cons (pv 1) (pa_cons pe_int (pa_cons (pe_glob rfl gLR (v := .int (10 ^ 60)) ⟨_, rfl⟩) pa_nil)))))) (pss_one ps_never) pss_nil)
      (pss_cons (ps_if (pt_cmpR op_le (pv 1) (pe_callB call_len rfl gLen boot_len (pa_cons (pe_fld (pv 0) rfl) pa_nil)) (nomark _))
        (pss_one (ps_ret (pe_make M GI hr rfl T.gC bI .nil pass0 (pa_cons (pe_slice sl_N (pe_fld (pv 0) rfl) (po_some (pv 1)) po_none) (pa_cons (pe_fld (pv 0) rfl) pa_nil))))) pss_nil)
      (pss_one (ps_ret (pe_make M GI hr rfl T.gC bI .nil pass0 (pa_cons (pe_tup pa_nil) (pa_cons (pe_call GO (hr.mono (by decide)) rfl gO FO.kp bO .nil pass0 (pa_cons (pe_fld (pv 0) rfl) (pa_cons (pe_op op_sub (pv 1) (pe_callB call_len rfl gLen boot_len (pa_cons (pe_fld (pv 0) rfl) pa_nil))) pa_nil))) pa_nil))))))), ?_⟩
    have lenL : LenV K (.ref p) H L.length := .inr ⟨_, hp, by rw [List.length_map]⟩
    walk_at "rd"
    refine ⟨_, _, _, rfl, ?_⟩
    rw [decide_eq_true (show (0 : Int) ≤ (m : Int) by omega), decide_eq_true hm]
    walk_at "rd"
    refine iteF ?_
    walk_at "rd"
    refine ⟨a, C, dx, _, _, rfl, ha, T.cl, T.nL, rfl, ?_⟩
    walk_at "rd"
    refine ⟨_, _, rfl, lenL, ?_⟩
    walk_at "rd"
    refine Rd.ifB (fun z => ?_) (fun z => ?_)
    · have ml : m ≤ L.length := by
        have y := of_decide_eq_true z
        omega
      walk_at "rd"
      refine ⟨a, C, dx, _, _, rfl, ha, T.cl, T.nL, rfl, ?_⟩
      walk_at "rd"
      refine ⟨p, L, rfl, .inr hp, fun p1 H1 s1 h1 => ?_⟩
      rw [cutL_from ml] at h1
      walk_at "rd"
      refine ⟨a, C, dx, _, _, rfl, s1 _ _ ha, T.cl, T.nT, rfl, ?_⟩
      walk_at "rd"
      exact mkFill h1 (.inr (hr'.ext s1)) (nm.oL.drop _) nm.oT nm.nf.ne fun x H' L' U' nx s2 hf n2 sq => q x H' L' U' (s1.free nx) (s1.trans s2) hf n2 fun i => (sq i).trans (M23.w_drop ml i)
    · have ml : L.length ≤ m := by
        have y := of_decide_eq_false z
        omega
      walk_at "rd"
      refine ⟨Rd.small (by show 0 ≤ 100000; decide), fun e0 ne0 => ?_⟩
      have s1 := same_new (o := HO.tup []) ne0
      have o1 := upd_same (H := H) (a := e0) (o := HO.tup [])
      generalize upd H e0 (HO.tup []) = H1 at s1 o1 ⊢
      walk_at "rd"
      refine ⟨a, C, dx, _, _, rfl, s1 _ _ ha, T.cl, T.nT, rfl, ?_⟩
      walk_at "rd"
      refine ⟨a, C, dx, _, _, rfl, s1 _ _ ha, T.cl, T.nL, rfl, ?_⟩
      walk_at "rd"
      refine ⟨_, _, rfl, .inr ⟨_, hp.ext s1, by rw [List.length_map]⟩, ?_⟩
      walk_at "rd"
      refine ⟨r, U, _, rfl, hr'.ext s1, nm.nf.ne, nm.oT.few, fun H2 p2 rr s2 rl re h2 => ?_⟩
      walk_at "rd"
      have re2 : rr = (m - L.length) % U.length := by
        rw [show (m : Int) - (L.length : Int) = ((m - L.length : Nat) : Int) by omega] at re
        exact Int.ofNat.inj re
      exact mkFill (L := []) (.inr (SqT.of (s2 _ _ o1))) (.inr h2) ⟨by decide, fun x hx => absurd hx List.not_mem_nil⟩ (nm.oT.rot _) (M23.rot_ne nm.nf.ne) fun x H' L' U' nx s3 hf n2 sq => q x H' L' U' (s1.free (s2.free nx)) (s1.trans (s2.trans s3)) hf n2 fun i => (sq i).trans (M23.w_behind ml nm.nf.ne re2 i)
theorem scEqM : FnScope ["self", "other"] ["self", "other"] (defScope sEqM) := ⟨rfl, rfl, rfl, by decide +kernel, rfl, by decide +kernel, by decide +kernel⟩
theorem ok_eqM (F : FunD K "__eq__" "Fill.__eq__" (defArgs sEqM) (defBody sEqM) (defScope sEqM) [] [] f fd) (T : Fc K mg C) (gIs : mg "isinstance" = none) : FnOk P w K mg base CX0 1 f fd ["self", "other"] (spEqF K C) := by
  refine F.ok scEqM (fun vs H Q E h => ?_) (fun cdv A outer s H vs Q E hr h => ?_)
  · obtain ⟨a, y, L, U, rfl, _⟩ := h
    rfl
  · obtain ⟨a, y, L, U, rfl, ⟨dx, p, r, ha, hp, hr'⟩, oL, oU, q⟩ := h
    refine ⟨_, PSs.nox (pss_one (ps_ret (pe_and (pe_callB call_isi rfl gIs (by decide +kernel) (pa_cons (pv 1) (pa_cons (pe_glob rfl T.gC (v := .ref C) rfl) pa_nil)))
      (pe_and (pe_cmpR (op_eqD hr.units) (pe_fld (pv 0) rfl) (pe_fld (pv 1) rfl) (nomark _)) (pe_one (pe_cmpR (op_eqD hr.units) (pe_fld (pv 0) rfl) (pe_fld (pv 1) rfl) (nomark _))))))), ?_⟩
    rcases q with ⟨b, L', U', rfl, ⟨dy, p', r', hb, hp', hr2⟩, oL', oU', q⟩ | ⟨ty, q⟩
    · walk_at "rd"
      refine ⟨.ref b, .ref C, .ref C, .ref C, true, rfl, .own C, .base (.ins hb T.cl T.hcl T.hgt T.htk T.hmo), T.k1, ?_⟩
      refine Rd.isT rfl ?_
      walk_at "rd"
      refine ⟨a, C, dx, _, _, rfl, ha, T.cl, T.nL, rfl, ?_⟩
      walk_at "rd"
      refine ⟨b, C, dy, _, _, rfl, hb, T.cl, T.nL, rfl, ?_⟩
      refine ⟨_, _, .tup hp (dpa_strs _), .tup hp' (dpa_strs _), shaped_tup oL.strs, shaped_tup oL'.strs, ?_⟩
      rw [eqv_tups]
      walk_at "rd"
      refine Rd.ifB (fun z => ?_) (fun z => ?_)
      · walk_at "rd"
        refine ⟨a, C, dx, _, _, rfl, ha, T.cl, T.nT, rfl, ?_⟩
        walk_at "rd"
        refine ⟨b, C, dy, _, _, rfl, hb, T.cl, T.nT, rfl, ?_⟩
        refine ⟨_, _, .tup hr' (dpa_strs _), .tup hr2 (dpa_strs _), shaped_tup oU.strs, shaped_tup oU'.strs, ?_⟩
        rw [eqv_tups]
        rw [z, Bool.true_and] at q
        exact q
      · rw [z, Bool.false_and] at q
        exact q
    · walk_at "rd"
      refine ⟨y, .ref C, .type "tuple", .ref C, false, rfl, .own C, ty, T.k0, ?_⟩
      exact Rd.isF rfl q
end
end K23

/-! Texts joined, and how long they are. -/
namespace K23
open PySem PySem.Spec PyProof.Rows L2
theorem jn_cons (s x y : Str) (r : List Str) : Str.join s (x :: y :: r) = x ++ s ++ Str.join s (y :: r) := by
  rfl
theorem jn_end (s x : Str) : ∀ L : List Str, Str.join s (L ++ [x]) = Str.join s (L ++ [Str.empty]) ++ x
  | [] => (Str.empty_append x).symm
  | [a] => by
    show Str.join s [a, x] = Str.join s [a, Str.empty] ++ x
    rw [jn_cons, jn_cons]
    show a ++ s ++ x = a ++ s ++ Str.empty ++ x
    rw [Str.append_empty]
  | a :: b :: L => by
    show Str.join s (a :: b :: (L ++ [x])) = Str.join s (a :: b :: (L ++ [Str.empty])) ++ x
    rw [jn_cons, jn_cons]
    have ih := jn_end s x (b :: L)
    rw [List.cons_append, List.cons_append] at ih
    rw [ih]
    simp only [Str.append_assoc]
theorem jn_len (s : Str) : ∀ L : List Str, (Str.join s L).length ≤ (L.map (·.length)).sum + L.length * s.length
  | [] => Nat.zero_le _
  | [a] => by
    show a.length ≤ _
    simp
  | a :: b :: L => by
    have ih := jn_len s (b :: L)
    rw [jn_cons, Str.length_append, Str.length_append]
    rw [List.map_cons, List.sum_cons, List.length_cons, Nat.succ_mul]
    omega
theorem sum_le {α : Type} {f : α → Nat} {B : Nat} : ∀ l : List α, (∀ x ∈ l, f x ≤ B) → (l.map f).sum ≤ l.length * B
  | [], _ => by simp
  | x :: l, h => by
    rw [List.map_cons, List.sum_cons, List.length_cons, Nat.succ_mul]
    have := h x List.mem_cons_self
    have := sum_le l fun y hy => h y (List.mem_cons_of_mem _ hy)
    omega
theorem menu_len : ∀ x ∈ menu, x.length ≤ 8 ∧ (reprText x).length ≤ 10 := by decide +kernel
theorem Ok.sum {l : List Str} (h : Ok l) : (l.map (·.length)).sum ≤ 480 := by
  have := sum_le (f := fun x : Str => x.length) l fun x hx => (menu_len x (h.all x hx)).1
  have := h.few
  omega
theorem Ok.join {l : List Str} (h : Ok l) : (Str.join " " l).length ≤ 540 := by
  have a := jn_len " " l
  have b := h.sum
  have c := h.few
  have d : (" " : Str).length = 1 := by decide +kernel
  rw [d] at a
  omega
theorem Ok.shown {l : List Str} (h : Ok l) : (PyData.tuple (l.map .str)).shown.length ≤ 1000 := by
  rw [PyData.shown_tuple, Str.length_append, Str.length_append, PyData.shownAll_strs]
  have a := jn_len ", " (l.map reprText)
  have b : ((l.map reprText).map (·.length)).sum ≤ 600 := by
    have z := sum_le (f := fun x : Str => x.length) (B := 10) (l.map reprText) fun x hx => by
      obtain ⟨y, hy, rfl⟩ := List.mem_map.mp hx
      exact (menu_len y (h.all y hy)).2
    rw [List.length_map] at z
    have := h.few
    omega
  have c := h.few
  have d : (", " : Str).length = 2 := by decide +kernel
  have e : ("(" : Str).length = 1 := by decide +kernel
  have f : ∀ k : Bool, (((if k = true then ",)" else ")" : String)) : Str).length ≤ 2 := by decide +kernel
  have g := f ((l.map PyData.str).length == 1)
  rw [List.length_map, d] at a
  rw [e]
  omega
end K23

namespace K23
open PySem PySem.Spec PyProof.Rows L2
local macro_rules | `(tactic| walk_at "rd1") => `(tactic| first
  | (with_reducible refine Rd.seq ?_) | (with_reducible refine Rd.asg ?_) | (with_reducible refine Rd.ret ?_) | (with_reducible refine Rd.nxt ?_) | (with_reducible refine Rd.ifS ?_)
  | (with_reducible refine Rd.op ?_) | (with_reducible refine Rd.un ?_) | (with_reducible refine Rd.cb ?_) | (with_reducible refine Rd.cons ?_) | (with_reducible refine Rd.nil ?_) | (with_reducible refine Rd.ifx ?_)
  | (with_reducible refine Rd.test ?_) | (with_reducible refine Rd.testB ?_) | (with_reducible refine Rd.notT ?_) | (with_reducible refine Rd.isB ?_) | (with_reducible refine Rd.lst ?_) | (with_reducible refine Rd.tup ?_)
  | (with_reducible refine Rd.andV ?_) | (with_reducible refine Rd.orV ?_) | (with_reducible refine Rd.notV ?_) | (with_reducible refine Rd.andT ?_) | (with_reducible refine Rd.orT ?_) | (with_reducible refine Rd.chain ?_)
  | (with_reducible refine Rd.m0 ?_) | (with_reducible refine Rd.m1 ?_) | (with_reducible refine Rd.bm0 ?_) | (with_reducible refine Rd.bm ?_) | (with_reducible refine Rd.sl ?_) | (with_reducible refine Rd.part ?_) | (with_reducible refine Rd.part0 ?_) | (with_reducible refine Rd.isI ?_)
  | (with_reducible refine Rd.fmt ?_) | (with_reducible refine Rd.fmtRD ?_) | (with_reducible refine Rd.meth ?_) | (with_reducible refine Rd.make ?_) | (with_reducible refine Rd.prop ?_) | (with_reducible refine Rd.js ?_) | (with_reducible refine Rd.js0 ?_) | (with_reducible refine Rd.par ?_) | (with_reducible refine Rd.star ?_) | (with_reducible refine lcR1 ?_) | (with_reducible refine lcR2 ?_) | (with_reducible refine Rd.fld ?_) | (with_reducible refine Rd.sfld ?_) | (with_reducible refine Rd.expr ?_) | (with_reducible refine L2.isNR ?_) | (with_reducible refine L2.methI ?_) | (with_reducible refine Rd.forZ ?_)
  | (with_reducible refine Rd.forEA ?_) | (with_reducible refine Rd.forR1 ?_) | (with_reducible refine Rd.forR2 ?_) | (with_reducible refine Rd.forL ?_) | (with_reducible refine Rd.forT ?_)
  | (with_reducible refine Rd.call ?_) | (with_reducible refine Rd.asgG ?_) | (with_reducible refine Rd.gNm ?_) | (with_reducible refine Rd.gSb ?_) | (with_reducible refine Rd.gC ?_) | (with_reducible refine Rd.gN ?_)
  | ((with_reducible refine' Rd.var ?hv ?_); (case hv => exact rfl)) | (with_reducible refine Rd.c ?_) | (with_reducible refine Rd.i0 ?_) | (with_reducible refine Rd.neg ?_)
  | ((with_reducible refine' Rd.iC ?hc ?_); (case hc => first | (show (0 : Int) < _; decide) | exact ⟨by decide, by decide⟩ | exact ⟨by decide, by decide, by decide⟩ | exact .inl ⟨by decide, by decide⟩ | exact .inr ⟨by decide, by decide⟩ | exact .inl ⟨by omega, by omega⟩ | (show (0 : Int) < _; omega) | exact ⟨by omega, by omega⟩))
  | ((with_reducible refine' Rd.eqS ?hc ?_); (case hc => rfl)) | ((with_reducible refine' Rd.neS ?hc ?_); (case hc => rfl)))
local macro_rules | `(tactic| walk_at "rd") => `(tactic| repeat walk_at "rd1")
/-- the text of a fill -/
def fillText (L T : List Str) : Str := Str.join " " (L ++ [((Str.empty ++ "(") ++ Str.join " " T) ++ ")"])
def fillRepr (L T : List Str) : Str := ((((Str.empty ++ "Fill(") ++ (PyData.tuple (L.map .str)).shown) ++ ", ") ++ (PyData.tuple (T.map .str)).shown) ++ ")"
def spText (K : PySem.W.Frag) (C : Addr) (g : List Str → List Str → Str) : Sp := fun vs H Q _ => ∃ (a : Addr) (L T : List Str), vs = [.ref a] ∧ FillAt K C H a L T ∧ Ok L ∧ Ok T ∧ ∀ H', Same H H' → Q (.str (g L T)) H'
section
variable {P : Program} {w : World} {K : PySem.W.Frag} {mg : Str → Option Value} {base : Heap} {C f : Addr} {fd : FuncData}
abbrev sStrM : Stmt := sMeth 8
abbrev sReprM : Stmt := sMeth 9
theorem scStrM : FnScope ["self"] ["self"] (defScope sStrM) := ⟨rfl, rfl, rfl, by decide +kernel, rfl, by decide +kernel, by decide +kernel⟩
theorem ok_strM (F : FunD K "__str__" "Fill.__str__" (defArgs sStrM) (defBody sStrM) (defScope sStrM) [] [] f fd) (T : Fc K mg C) : FnOk P w K mg base CX0 1 f fd ["self"] (spText K C fillText) := by
  refine F.ok scStrM (fun vs H Q E h => ?_) (fun cdv A outer s H vs Q E hr h => ?_)
  · obtain ⟨a, L, U, rfl, _⟩ := h
    rfl
  · obtain ⟨a, L, U, rfl, ⟨dx, p, r, ha, hp, hr'⟩, oL, oU, q⟩ := h
    refine ⟨_, PSs.nox (pss_one (ps_ret (pe_join pe_str (pe_lst (StX.pa_star (pe_fld (pv 0) rfl) (pa_cons (pe_joined (.cons pe_str (.cons (pe_fmt (pe_join pe_str (pe_fld (pv 0) rfl))) (.cons pe_str .nil)))) pa_nil)))))), ?_⟩
    have d1 : (" " : Str).length = 1 := by decide +kernel
    have j1 := oU.join
    have j2 := oU.sum
    have j3 := oU.few
    have l1 := oL.sum
    have l2 := oL.few
    walk_at "rd"
    refine ⟨⟨_, rfl⟩, ?_⟩
    walk_at "rd"
    refine ⟨a, C, dx, _, _, rfl, ha, T.cl, T.nL, rfl, ?_⟩
    refine ⟨p, _, rfl, .inl hp, ?_⟩
    have e1 : (Str.empty ++ "(" : Str).length = 1 := by decide +kernel
    have e2 : (")" : Str).length = 1 := by decide +kernel
    have tj : ∀ (x : Str) l, Txt.join x l = Str.join x l := StrLaws.glued_eq_join
    walk_at "rd"
    refine ⟨_, rfl, Rd.small (by rw [e1]; decide), ?_⟩
    walk_at "rd"
    refine ⟨⟨_, rfl⟩, ?_⟩
    walk_at "rd"
    refine ⟨a, C, dx, _, _, rfl, ha, T.cl, T.nT, rfl, ?_⟩
    refine ⟨" ", r, U, rfl, rfl, .inr hr', by rw [d1]; omega, ?_⟩
    rw [tj]
    refine .inl ⟨_, rfl, Rd.small (by omega), ?_⟩
    have e3 : ((Str.empty ++ "(") ++ Str.join " " U : Str).length ≤ 541 := by rw [Str.length_append, e1]; omega
    refine ⟨_, rfl, Rd.small (by omega), ?_⟩
    walk_at "rd"
    have e4 : (((Str.empty ++ "(") ++ Str.join " " U) ++ ")" : Str).length ≤ 542 := by rw [Str.length_append, e2]; omega
    refine ⟨_, rfl, Rd.small (by omega), ?_⟩
    walk_at "rd"
    refine ⟨Rd.small (by rw [List.length_append, List.length_map]; show L.length + 1 ≤ 100000; omega), fun l nl => ?_⟩
    refine ⟨" ", l, L ++ [((Str.empty ++ "(") ++ Str.join " " U) ++ ")"], rfl, rfl, .inl (SqL.of (by rw [upd_same, List.map_append]; rfl)), ?_, ?_⟩
    · rw [d1, List.map_append, List.sum_append, List.length_append]
      show _ + (List.map (fun x : Str => x.length) [((Str.empty ++ "(") ++ Str.join " " U) ++ ")"]).sum + (L.length + 1) * 1 ≤ 16777216
      rw [List.map_cons, List.map_nil, List.sum_cons, List.sum_nil]
      omega
    · rw [tj]
      exact q _ (same_new nl)
theorem scReprM : FnScope ["self"] ["self"] (defScope sReprM) := ⟨rfl, rfl, rfl, by decide +kernel, rfl, by decide +kernel, by decide +kernel⟩
theorem ok_reprM (F : FunD K "__repr__" "Fill.__repr__" (defArgs sReprM) (defBody sReprM) (defScope sReprM) [] [] f fd) (T : Fc K mg C) (sm : smOk K = true) : FnG P w K mg base CX0 1 f fd ["self"] (spText K C fillRepr) := by
  refine F.okG scReprM (fun vs H Q E h => ?_) (fun cdv A outer s H vs Q E hgu hr h => ?_)
  · obtain ⟨a, L, U, rfl, _⟩ := h
    rfl
  · obtain ⟨a, L, U, rfl, ⟨dx, p, r, ha, hp, hr'⟩, oL, oU, q⟩ := h
    refine ⟨_, PSs.nox (pss_one (ps_ret (pe_joined (.cons pe_str (.cons (pe_fmtRD hgu hr.units sm (pe_fld (pv 0) rfl)) (.cons pe_str (.cons (pe_fmtRD hgu hr.units sm (pe_fld (pv 0) rfl)) (.cons pe_str .nil)))))))), ?_⟩
    have e1 : (Str.empty ++ "Fill(" : Str).length = 5 := by decide +kernel
    have e2 : (", " : Str).length = 2 := by decide +kernel
    have e3 : (")" : Str).length = 1 := by decide +kernel
    have zL := oL.shown
    have zU := oU.shown
    have dp : ∀ l : List Str, (PyData.tuple (l.map .str)).depth ≤ 20 := fun l => by rw [PyData.depth, depth_strs]; decide
    have sw : ∀ l : List Str, (PyData.tuple (l.map .str)).showable = true := fun l => by rw [PyData.showable, showable_strs]
    walk_at "rd"
    refine ⟨_, rfl, Rd.small (by rw [e1]; decide), ?_⟩
    walk_at "rd"
    refine ⟨a, C, dx, _, _, rfl, ha, T.cl, T.nL, rfl, ?_⟩
    refine ⟨p, _, rfl, .tup hp (dds_strs L), sw L, dp L, Rd.small (by omega), ?_⟩
    have f1 : ((Str.empty ++ "Fill(") ++ (PyData.tuple (L.map .str)).shown : Str).length ≤ 1005 := by rw [Str.length_append, e1]; omega
    refine ⟨_, rfl, Rd.small (by omega), ?_⟩
    walk_at "rd"
    have f2 : (((Str.empty ++ "Fill(") ++ (PyData.tuple (L.map .str)).shown) ++ ", " : Str).length ≤ 1007 := by rw [Str.length_append, e2]; omega
    refine ⟨_, rfl, Rd.small (by omega), ?_⟩
    walk_at "rd"
    refine ⟨a, C, dx, _, _, rfl, ha, T.cl, T.nT, rfl, ?_⟩
    refine ⟨r, _, rfl, .tup hr' (dds_strs U), sw U, dp U, Rd.small (by omega), ?_⟩
    have f3 : ((((Str.empty ++ "Fill(") ++ (PyData.tuple (L.map .str)).shown) ++ ", ") ++ (PyData.tuple (U.map .str)).shown : Str).length ≤ 2007 := by rw [Str.length_append]; omega
    refine ⟨_, rfl, Rd.small (by omega), ?_⟩
    walk_at "rd"
    refine ⟨_, rfl, Rd.small (by rw [Str.length_append, e3]; omega), ?_⟩
    walk_at "rd"
    exact q _ (Same.refl _)
end
end K23

namespace K23
open PySem PySem.Spec PyProof.Rows L2
local macro_rules | `(tactic| walk_at "rd1") => `(tactic| first
  | (with_reducible refine Rd.seq ?_) | (with_reducible refine Rd.asg ?_) | (with_reducible refine Rd.ret ?_) | (with_reducible refine Rd.nxt ?_) | (with_reducible refine Rd.ifS ?_)
  | (with_reducible refine Rd.op ?_) | (with_reducible refine Rd.un ?_) | (with_reducible refine Rd.cb ?_) | (with_reducible refine Rd.cons ?_) | (with_reducible refine Rd.nil ?_) | (with_reducible refine Rd.ifx ?_)
  | (with_reducible refine Rd.test ?_) | (with_reducible refine Rd.testB ?_) | (with_reducible refine Rd.notT ?_) | (with_reducible refine Rd.isB ?_) | (with_reducible refine Rd.lst ?_) | (with_reducible refine Rd.tup ?_)
  | (with_reducible refine Rd.andV ?_) | (with_reducible refine Rd.orV ?_) | (with_reducible refine Rd.notV ?_) | (with_reducible refine Rd.andT ?_) | (with_reducible refine Rd.orT ?_) | (with_reducible refine Rd.chain ?_)
  | (with_reducible refine Rd.m0 ?_) | (with_reducible refine Rd.m1 ?_) | (with_reducible refine Rd.bm0 ?_) | (with_reducible refine Rd.bm ?_) | (with_reducible refine Rd.sl ?_) | (with_reducible refine Rd.part ?_) | (with_reducible refine Rd.part0 ?_) | (with_reducible refine Rd.isI ?_)
  | (with_reducible refine Rd.fmt ?_) | (with_reducible refine Rd.fmtRD ?_) | (with_reducible refine Rd.meth ?_) | (with_reducible refine Rd.make ?_) | (with_reducible refine Rd.prop ?_) | (with_reducible refine Rd.js ?_) | (with_reducible refine Rd.js0 ?_) | (with_reducible refine Rd.par ?_) | (with_reducible refine Rd.star ?_) | (with_reducible refine lcR1 ?_) | (with_reducible refine lcR2 ?_) | (with_reducible refine Rd.fld ?_) | (with_reducible refine Rd.sfld ?_) | (with_reducible refine Rd.expr ?_) | (with_reducible refine L2.isNR ?_) | (with_reducible refine L2.methI ?_) | (with_reducible refine Rd.forZ ?_)
  | (with_reducible refine Rd.forEA ?_) | (with_reducible refine Rd.forR1 ?_) | (with_reducible refine Rd.forR2 ?_) | (with_reducible refine Rd.forL ?_) | (with_reducible refine Rd.forT ?_)
  | (with_reducible refine Rd.call ?_) | (with_reducible refine Rd.asgG ?_) | (with_reducible refine Rd.gNm ?_) | (with_reducible refine Rd.gSb ?_) | (with_reducible refine Rd.gC ?_) | (with_reducible refine Rd.gN ?_)
  | ((with_reducible refine' Rd.var ?hv ?_); (case hv => exact rfl)) | (with_reducible refine Rd.c ?_) | (with_reducible refine Rd.i0 ?_) | (with_reducible refine Rd.neg ?_)
  | ((with_reducible refine' Rd.iC ?hc ?_); (case hc => first | (show (0 : Int) < _; decide) | exact ⟨by decide, by decide⟩ | exact ⟨by decide, by decide, by decide⟩ | exact .inl ⟨by decide, by decide⟩ | exact .inr ⟨by decide, by decide⟩ | exact .inl ⟨by omega, by omega⟩ | (show (0 : Int) < _; omega) | exact ⟨by omega, by omega⟩))
  | ((with_reducible refine' Rd.eqS ?hc ?_); (case hc => rfl)) | ((with_reducible refine' Rd.neS ?hc ?_); (case hc => rfl)))
local macro_rules | `(tactic| walk_at "rd") => `(tactic| repeat walk_at "rd1")
abbrev sTaken : Stmt := topA iTaken
abbrev sNormal : Stmt := topA iNormal
/-- so many different ones of a list that has more -/
def spTaken (K : PySem.W.Frag) : Sp := fun vs H Q _ => ∃ (p l : Addr) (xs : List Str) (n : Nat), vs = [.ref p, .ref l, .int n] ∧ PotAt H p ∧ H l = some (.lst (xs.map V.str)) ∧ l ≠ p ∧ n ≤ xs.length ∧ xs.length ≤ 100 ∧
  ∀ (r : Addr) (H' : Hp) (ys : List Str), PotAt H' p → But p H H' → H r = none → H' r = some (.lst (ys.map V.str)) → ys.length = n → (∀ y ∈ ys, y ∈ xs) → Q (.ref r) H'
theorem pot_same {p : Addr} {H H' : Hp} (h : PotAt H p) (e : Same H H') : PotAt H' p := by
  obtain ⟨x, y, a, b⟩ := h
  exact ⟨x, y, e _ _ a, b⟩
theorem pot_new {p q : Addr} {H : Hp} (h : PotAt H p) (n : H q = none) : q ≠ p := fun e => by
  obtain ⟨x, y, a, _⟩ := h
  rw [← e, n] at a
  cases a
theorem erase_map : ∀ (l : List Str) (j : Nat), (l.map V.str).eraseIdx j = (l.eraseIdx j).map V.str
  | [], j => by cases j <;> rfl
  | x :: l, 0 => rfl
  | x :: l, j + 1 => by
    show V.str x :: (l.map V.str).eraseIdx j = V.str x :: (l.eraseIdx j).map V.str
    rw [erase_map l j]
theorem butS' {p : Addr} {H H' : Hp} (h : Same H H') : But p H H' := fun b o _ e => h b o e
section
variable {P : Program} {w : World} {K : PySem.W.Frag} {mg : Str → Option Value} {base : Heap} {C f fD : Addr} {fd fdD : FuncData}
theorem scTaken : FnScope ["_law_pot_here", "_law_menu", "_law_many", "_law_left", "_law_found", "_law_turn"] ["_law_pot_here", "_law_menu", "_law_many"] (defScope sTaken) := ⟨rfl, rfl, rfl, by decide +kernel, rfl, by decide +kernel, by decide +kernel⟩
theorem ok_taken (F : FnP K "_law_taken" sTaken f fd) (FD : FnP K "_law_draw" sDraw fD fdD) (GD : FnOk P w K mg base CX0 1 fD fdD ["_law_pot_here", "_law_many"] spDraw) (gD : mg "_law_draw" = some (.ref fD)) (gLen : mg "len" = none) (gList : mg "list" = none) (gRange : mg "range" = none) :
    FnOk P w K mg base CX0 2 f fd ["_law_pot_here", "_law_menu", "_law_many"] (spTaken K) := by
  have bD : Binds K fdD ["_law_pot_here", "_law_many"] [] := FD.bindsN fun _ _ _ _ _ _ us hl => match us, hl with | [_, _], _ => rfl
  refine F.ok scTaken (fun vs H Q E h => ?_) (fun cdv A outer s H vs Q E hr h => ?_)
  · obtain ⟨p, l, xs, n, rfl, _⟩ := h
    rfl
  · obtain ⟨p, l, xs, n, rfl, hp, hl, nlp, hn, hx, q⟩ := h
    refine ⟨_, PSs.nox (pss_cons (ps_par (i := 3) (j := 4) (by rfl) scTaken.nd rfl rfl (by decide) rfl rfl (pa_cons (pe_callTy call_list_of rfl gList (by decide +kernel) (pa_cons (pv 1) pa_nil)) (pa_cons (pe_lst pa_nil) pa_nil)) (by rfl))
      (pss_cons (ps_for PassesOwn.never rfl (pi_range1 rfl gRange (pa_cons (pv 2) pa_nil)) (pg_name (i := 5) scTaken.nd rfl (Or.inl rfl))
        (pss_one (ps_expr (pe_bm PySem.F.plainAttrs_list PySem.F.slot_list_append PySem.F.type_list_append mt_append (pv 4)
          (pa_cons (pe_bm PySem.F.plainAttrs_list PySem.F.slot_list_pop PySem.F.type_list_pop mt_popAt (pv 3) (pa_cons (pe_call GD hr rfl gD FD.kp bD .nil pass0 (pa_cons (pv 0) (pa_cons (pe_callB call_len rfl gLen boot_len (pa_cons (pv 3) pa_nil)) pa_nil))) pa_nil)) pa_nil)))))
      (pss_one (ps_ret (pv 4))))), ?_⟩
    walk_at "rd"
    refine ⟨l, _, rfl, .inl (SqL.of hl), fun l1 n1 => ?_⟩
    have s1 := same_new (o := HO.lst (xs.map V.str)) n1
    have o1 := upd_same (H := H) (a := l1) (o := HO.lst (xs.map V.str))
    generalize upd H l1 (HO.lst (xs.map V.str)) = H1 at s1 o1 ⊢
    walk_at "rd"
    refine ⟨Rd.small (by show 0 ≤ 100000; decide), fun l2 n2 => ?_⟩
    have s2 := same_new (o := HO.lst []) n2
    have o2 := upd_same (H := H1) (a := l2) (o := HO.lst [])
    generalize upd H1 l2 (HO.lst []) = H2 at s2 o2 ⊢
    refine ⟨_, _, rfl, ?_⟩
    walk_at "rd"
    refine ⟨(n : Int), rfl, by omega, by omega, ?_⟩
    have p2 := pot_same hp (s1.trans s2)
    have d1 : l1 ≠ p := pot_new hp n1
    have d2 : l2 ≠ p := pot_new (pot_same hp s1) n2
    have d12 : l1 ≠ l2 := ne_of_none o1 n2
    have nl2 : H l2 = none := s1.free n2
    refine for_it walk_range (fun i σ H' => (∃ t, σ = [some (.ref p), some (.ref l), some (.int n), some (.ref l1), some (.ref l2), t]) ∧ PotAt H' p ∧ But p H H' ∧ ∃ left found : List Str, H' l1 = some (.lst (left.map V.str)) ∧ H' l2 = some (.lst (found.map V.str)) ∧ left.length = xs.length - i ∧ found.length = i ∧ (∀ y ∈ left, y ∈ xs) ∧ ∀ y ∈ found, y ∈ xs)
      ⟨⟨_, rfl⟩, p2, butS' (s1.trans s2), xs, [], s2 _ _ o1, o2, rfl, rfl, fun _ h => h, fun _ h => absurd h List.not_mem_nil⟩ (fun _ _ _ _ _ => trivial) (fun i v σ H3 H4 hi hp' hy => ?_) (fun σ H' hp' => ?_)
    · obtain ⟨⟨t, rfl⟩, pt, bt, left, found, a1, a2, z1, z2, m1, m2⟩ := hp'
      obtain ⟨rfl, rfl⟩ := hy
      rw [Int.toNat_natCast] at hi
      walk_at "rd"
      refine ⟨.inl ⟨rfl, _, SqL.of a2⟩, ?_⟩
      walk_at "rd"
      refine ⟨.inl ⟨rfl, _, SqL.of a1⟩, ?_⟩
      walk_at "rd"
      refine ⟨_, _, rfl, .inl ⟨_, SqL.of a1, rfl⟩, ?_⟩
      walk_at "rd"
      have lp : 0 < left.length := by omega
      refine ⟨p, _, rfl, pt, by rw [List.length_map]; omega, Int.lt_trans (show ((left.map V.str).length : Int) < 1000000 by rw [List.length_map]; omega) (by decide +kernel), fun d H5 d0 dl p5 b5 => ?_⟩
      obtain ⟨j, rfl⟩ := Int.eq_ofNat_of_zero_le d0
      rw [List.length_map] at dl
      have hj : j < left.length := by omega
      walk_at "rd"
      have ix : ixN (left.map V.str).length (j : Int) = some j := by
        unfold ixN
        rw [if_pos (by omega), if_pos (by rw [List.length_map]; omega), Int.toNat_natCast]
      refine ⟨l1, _, (j : Int), j, _, rfl, rfl, b5 l1 _ d1 a1, by omega, by omega, (ixN_seq ix).1, at_str hj, ?_⟩
      walk_at "rd"
      have f2 : upd H5 l1 (.lst ((left.map V.str).eraseIdx j)) l2 = some (.lst (found.map V.str)) := (upd_ne d12.symm).trans (b5 l2 _ d2 a2)
      refine ⟨l2, _, _, rfl, rfl, f2, Nat.lt_of_lt_of_le (show (found.map V.str).length < 100000 by rw [List.length_map]; omega) (by decide), ?_⟩
      walk_at "rd"
      have p6 : PotAt (upd (upd H5 l1 (.lst ((left.map V.str).eraseIdx j))) l2 (.lst (found.map V.str ++ [V.str left[j]]))) p := by
        obtain ⟨x, y, e, r⟩ := p5
        exact ⟨x, y, by rw [upd_ne d2.symm, upd_ne d1.symm]; exact e, r⟩
      refine ⟨⟨_, rfl⟩, p6, fun b o hb e => ?_, left.eraseIdx j, found ++ [left[j]], ?_, ?_, ?_, ?_, fun y hy => m1 y (List.mem_of_mem_eraseIdx hy), fun y hy => ?_⟩
      · rw [upd_ne (ne_of_none e nl2), upd_ne (ne_of_none e n1)]
        exact b5 b o hb (bt b o hb e)
      · rw [upd_ne d12, upd_same, erase_map]
      · rw [upd_same, List.map_append]
        rfl
      · rw [List.length_eraseIdx_of_lt hj]
        omega
      · rw [List.length_append, z2]
        rfl
      · rcases List.mem_append.mp hy with h | h
        · exact m2 y h
        · rw [List.mem_singleton.mp h]
          exact m1 _ (List.getElem_mem hj)
    · obtain ⟨⟨t, rfl⟩, pt, bt, left, found, a1, a2, z1, z2, m1, m2⟩ := hp'
      rw [Int.toNat_natCast] at z2
      walk_at "rd"
      exact q l2 H' found pt bt nl2 a2 z2 m2
end
end K23

namespace K23
open PySem PySem.Spec PyProof.Rows L2
local macro_rules | `(tactic| walk_at "rd1") => `(tactic| first
  | (with_reducible refine Rd.seq ?_) | (with_reducible refine Rd.asg ?_) | (with_reducible refine Rd.ret ?_) | (with_reducible refine Rd.nxt ?_) | (with_reducible refine Rd.ifS ?_)
  | (with_reducible refine Rd.op ?_) | (with_reducible refine Rd.un ?_) | (with_reducible refine Rd.cb ?_) | (with_reducible refine Rd.cons ?_) | (with_reducible refine Rd.nil ?_) | (with_reducible refine Rd.ifx ?_)
  | (with_reducible refine Rd.test ?_) | (with_reducible refine Rd.testB ?_) | (with_reducible refine Rd.notT ?_) | (with_reducible refine Rd.isB ?_) | (with_reducible refine Rd.lst ?_) | (with_reducible refine Rd.tup ?_)
  | (with_reducible refine Rd.andV ?_) | (with_reducible refine Rd.orV ?_) | (with_reducible refine Rd.notV ?_) | (with_reducible refine Rd.andT ?_) | (with_reducible refine Rd.orT ?_) | (with_reducible refine Rd.chain ?_)
  | (with_reducible refine Rd.m0 ?_) | (with_reducible refine Rd.m1 ?_) | (with_reducible refine Rd.bm0 ?_) | (with_reducible refine Rd.bm ?_) | (with_reducible refine Rd.sl ?_) | (with_reducible refine Rd.part ?_) | (with_reducible refine Rd.part0 ?_) | (with_reducible refine Rd.isI ?_)
  | (with_reducible refine Rd.fmt ?_) | (with_reducible refine Rd.fmtRD ?_) | (with_reducible refine Rd.meth ?_) | (with_reducible refine Rd.make ?_) | (with_reducible refine Rd.prop ?_) | (with_reducible refine Rd.js ?_) | (with_reducible refine Rd.js0 ?_) | (with_reducible refine Rd.par ?_) | (with_reducible refine Rd.star ?_) | (with_reducible refine lcR1 ?_) | (with_reducible refine lcR2 ?_) | (with_reducible refine Rd.fld ?_) | (with_reducible refine Rd.sfld ?_) | (with_reducible refine Rd.expr ?_) | (with_reducible refine L2.isNR ?_) | (with_reducible refine L2.methI ?_) | (with_reducible refine Rd.forZ ?_)
  | (with_reducible refine Rd.forEA ?_) | (with_reducible refine Rd.forR1 ?_) | (with_reducible refine Rd.forR2 ?_) | (with_reducible refine Rd.forL ?_) | (with_reducible refine Rd.forT ?_)
  | (with_reducible refine Rd.call ?_) | (with_reducible refine Rd.asgG ?_) | (with_reducible refine Rd.gNm ?_) | (with_reducible refine Rd.gSb ?_) | (with_reducible refine Rd.gC ?_) | (with_reducible refine Rd.gN ?_)
  | ((with_reducible refine' Rd.var ?hv ?_); (case hv => exact rfl)) | (with_reducible refine Rd.c ?_) | (with_reducible refine Rd.i0 ?_) | (with_reducible refine Rd.neg ?_)
  | ((with_reducible refine' Rd.iC ?hc ?_); (case hc => first | (show (0 : Int) < _; decide) | exact ⟨by decide, by decide⟩ | exact ⟨by decide, by decide, by decide⟩ | exact .inl ⟨by decide, by decide⟩ | exact .inr ⟨by decide, by decide⟩ | exact .inl ⟨by omega, by omega⟩ | (show (0 : Int) < _; omega) | exact ⟨by omega, by omega⟩))
  | ((with_reducible refine' Rd.eqS ?hc ?_); (case hc => rfl)) | ((with_reducible refine' Rd.neS ?hc ?_); (case hc => rfl)))
local macro_rules | `(tactic| walk_at "rd") => `(tactic| repeat walk_at "rd1")
/-- list(x) of a list or a tuple of texts -/
def rListN (K : PySem.W.Frag) : List V → Hp → VK → Prop := fun xs H Q => ∃ (a : Addr) (l : List Str), xs = [.ref a] ∧ Sq K H a l ∧ ∀ (p : Addr) (H' : Hp), H p = none → Same H H' → H' p = some (.lst (l.map V.str)) → Q (.ref p) H'
theorem call_listN {X : Cx} : CallR X (.type "list") (rListN X.K) := by
  intro pins s σ H xs us Q I r h
  obtain ⟨a, l, rfl, h, q⟩ := h
  exact call_list_of pins s σ H [.ref a] us Q I r ⟨a, l.map V.str, rfl, h, fun p hp => q p _ hp (same_new hp) upd_same⟩
def spNormal (K : PySem.W.Frag) : Sp := fun vs H Q _ => ∃ (a b : Addr) (L T : List Str), vs = [.ref a, .ref b] ∧ Sq K H a L ∧ Sq K H b T ∧ Ok L ∧ Ok T ∧ T ≠ [] ∧
  ∀ (r p q : Addr) (H' : Hp) (L' T' : List Str), H r = none → Same H H' → H' r = some (.tup [.ref p, .ref q]) → SqT K H' p (L'.map V.str) → SqT K H' q (T'.map V.str) → Nm L' T' → (∀ i, M23.sq L' T' i = M23.sq L T i) → Q (.ref r) H'
theorem for_rest {J : It} {g : TG} {tb : TS} {D : Ends} {σ : L2.St} {H : Hp} (B : L2.St → Hp → Prop) (rest : ∀ σ H', B σ H' → D.nx σ H') (k : (∀ σ H', B σ H' → D.nx σ H') → ForG J g tb D σ H) : ForG J g tb D σ H := k rest
section
variable {P : Program} {w : World} {K : PySem.W.Frag} {mg : Str → Option Value} {base : Heap} {C f fD : Addr} {fd fdD : FuncData}
theorem scNormal : FnScope ["_law_lead", "_law_turn", "_law_some", "_law_ahead", "_law_size"] ["_law_lead", "_law_turn"] (defScope sNormal) := ⟨rfl, rfl, rfl, by decide +kernel, rfl, by decide +kernel, by decide +kernel⟩
theorem ok_normal (F : FnP K "_law_normal" sNormal f fd) (gLen : mg "len" = none) (gList : mg "list" = none) (gTup : mg "tuple" = none) (gRange : mg "range" = none) :
    FnOk P w K mg base CX0 1 f fd ["_law_lead", "_law_turn"] (spNormal K) := by
  refine F.ok scNormal (fun vs H Q E h => ?_) (fun cdv A outer s H vs Q E hr h => ?_)
  · obtain ⟨a, b, L, T, rfl, _⟩ := h
    rfl
  · obtain ⟨a, b, L, T, rfl, hL, hT, oL, oT, hne, q⟩ := h
    refine ⟨_, PSs.nox (pss_cons (ps_par (i := 2) (j := 3) (by rfl) scNormal.nd rfl rfl (by decide) rfl rfl (pa_cons (pe_callTy call_listN rfl gList (by decide +kernel) (pa_cons (pv 1) pa_nil)) (pa_cons (pe_callTy call_listN rfl gList (by decide +kernel) (pa_cons (pv 0) pa_nil)) pa_nil)) (by rfl))
      (pss_cons (ps_for PassesOwn.never rfl (pi_range2 rfl gRange (pa_cons pe_int (pa_cons (pe_op op_add (pe_callB call_len rfl gLen boot_len (pa_cons (pv 1) pa_nil)) pe_int) pa_nil))) (pg_name (i := 4) scNormal.nd rfl (Or.inl rfl))
        (pss_one (ps_if (pt_cmpR (op_eqD hr.units) (pe_op op_rep (pe_callTy call_listN rfl gList (by decide +kernel) (pa_cons (pe_slice sl_N (pv 1) po_none (po_some (pv 4))) pa_nil)) (pe_op op_fdiv (pe_callB call_len rfl gLen boot_len (pa_cons (pv 1) pa_nil)) (pv 4)))
            (pe_callTy call_listN rfl gList (by decide +kernel) (pa_cons (pv 1) pa_nil)) (nomark _))
          (pss_cons (ps_set (i := 2) scNormal.nd rfl (Or.inl rfl) (pe_callTy call_listN rfl gList (by decide +kernel) (pa_cons (pe_slice sl_N (pv 1) po_none (po_some (pv 4))) pa_nil))) (pss_one ps_break)) pss_nil)))
      (pss_cons (ps_while PassesOwn.never (PW.pt (pw_and (pt_cmpR (op_neD hr.units) (pv 3) (pe_lst pa_nil) (nomark _)) (pw_and1 (pt_cmpR op_eq (pe_ix ix_list (pv 3) (pe_un un_neg pe_int) (fun _ _ => rfl)) (pe_ix ix_list (pv 2) (pe_un un_neg pe_int) (fun _ _ => rfl)) (nomark _)))))
        (pss_cons (ps_set (i := 2) scNormal.nd rfl (Or.inl rfl) (pe_op op_cat (pe_slice sl_list (pv 2) (po_some (pe_un un_neg pe_int)) po_none) (pe_slice sl_list (pv 2) po_none (po_some (pe_un un_neg pe_int)))))
        (pss_one (ps_set (i := 3) scNormal.nd rfl (Or.inl rfl) (pe_slice sl_list (pv 3) po_none (po_some (pe_un un_neg pe_int)))))))
      (pss_one (ps_ret (pe_tup (pa_cons (pe_callTy call_tupN rfl gTup (by decide +kernel) (pa_cons (pv 3) pa_nil)) (pa_cons (pe_callTy call_tupN rfl gTup (by decide +kernel) (pa_cons (pv 2) pa_nil)) pa_nil)))))))), ?_⟩
    have n0 := List.length_pos_iff.mpr hne
    have hf := oT.few
    walk_at "rd"
    refine ⟨b, T, rfl, hT, fun ps0 H1 np1 s1 hps => ?_⟩
    walk_at "rd"
    refine ⟨a, L, rfl, hL.same s1, fun pa H2 np2 s2 hpa => ?_⟩
    walk_at "rd"
    refine ⟨_, _, rfl, ?_⟩
    walk_at "rd"
    have s02 := s1.trans s2
    refine ⟨_, _, rfl, (hT.same s02).len, ?_⟩
    walk_at "rd"
    refine ⟨1, (T.length : Int) + 1, rfl, ⟨by decide, by decide, by omega, by omega⟩, ?_⟩
    rw [show ((T.length : Int) + 1 - 1).toNat = T.length by omega]
    refine for_rest (fun σ H' => ∃ (S : List Str) (pS : Addr) (c : Option V), σ = [some (.ref a), some (.ref b), some (.ref pS), some (.ref pa), c] ∧ Same H H' ∧ H' pS = some (.lst (S.map V.str)) ∧ H' pa = some (.lst (L.map V.str)) ∧ S ≠ [] ∧ M23.Prim S ∧ (∀ i, M23.sq [] S i = M23.sq [] T i) ∧ Ok S) ?_ (fun rest => ?_)
    · rintro σ H' ⟨S, pS, c, rfl, sH, hS, hA, Sne, Sp, Ssq, oS⟩
      dsimp only
      refine Rd.seq ?_
      refine Rd.whl ⟨fun m σ H3 => ∃ (A S : List Str) (pA pS : Addr), σ = [some (.ref a), some (.ref b), some (.ref pS), some (.ref pA), c] ∧ Same H H3 ∧ H3 pS = some (.lst (S.map V.str)) ∧ H3 pA = some (.lst (A.map V.str)) ∧ S ≠ [] ∧ M23.Prim S ∧ (∀ i, M23.sq A S i = M23.sq L T i) ∧ Ok A ∧ Ok S ∧ m = A.length,
        ⟨_, L, S, pa, pS, rfl, sH, hS, hA, Sne, Sp, ?_, oL, oS, rfl⟩, ?_⟩
      · intro i
        by_cases h : i < L.length
        · rw [M23.sq_lo h, M23.sq_lo h]
        · rw [show i = L.length + (i - L.length) by omega, M23.sq_add, M23.sq_add, Ssq]
      rintro m σ H3 ⟨A, S, pA, pS, rfl, s3, hS, hA, Sne, Sp, sq, oA, oS, rfl⟩
      walk_at "rd"
      refine ⟨Rd.small (by show 0 ≤ 100000; decide), fun e0 ne0 => ?_⟩
      have s4 := same_new (o := HO.lst []) ne0
      have o4 := upd_same (H := H3) (a := e0) (o := HO.lst [])
      generalize upd H3 e0 (HO.lst []) = H4 at s4 o4 ⊢
      refine ⟨_, _, .lst (SqL.of (s4 _ _ hA)) (dpa_strs _), .lst (SqL.of o4) (dpa_strs []), shaped_lst oA.strs, shaped_lst (fun _ h => absurd h List.not_mem_nil), ?_⟩
      rw [eqv_lists]
      walk_at "rd"
      have fin : (A ≠ [] → A[A.length - 1]? ≠ S[S.length - 1]?) → (tRet (tTup (tCons (tCB (rTupN K) (tCons (tVar 3) tNil)) (tCons (tCB (rTupN K) (tCons (tVar 2) tNil)) tNil)))) { nx := fun _ H' => Q .non H', rt := Q } [some (.ref a), some (.ref b), some (.ref pS), some (.ref pA), c] H4 := fun last => by
        walk_at "rd"
        refine ⟨pA, A, rfl, .inl (SqL.of (s4 _ _ hA)), fun q1 H5 s5 h5 => ?_⟩
        walk_at "rd"
        refine ⟨pS, S, rfl, .inl (SqL.of (s5 _ _ (s4 _ _ hS))), fun q2 H6 s6 h6 => ?_⟩
        walk_at "rd"
        refine ⟨Rd.small (by show 2 ≤ 100000; decide), fun r nr => ?_⟩
        have s7 := same_new (o := HO.tup [V.ref q1, V.ref q2]) nr
        have sA := s3.trans (s4.trans (s5.trans s6))
        exact q r q1 q2 _ A S (sA.free nr) (sA.trans s7) upd_same ((h5.ext s6).ext s7) (h6.ext s7) ⟨⟨Sne, Sp, last⟩, oA, oS⟩ sq
      refine Rd.ifB (fun ne => ?_) (fun em => ?_)
      · have Ane : A ≠ [] := of_decide_eq_false (by simpa using ne)
        have a0 := List.length_pos_iff.mpr Ane
        have c0 := List.length_pos_iff.mpr Sne
        walk_at "rd"
        refine Rd.ixL' (SqL.of (s4 _ _ hA)) ((Rd.at_last (by rw [List.length_map]; exact a0)).trans (by rw [List.length_map]; exact at_str (by omega))) ?_
        walk_at "rd"
        refine Rd.ixL' (SqL.of (s4 _ _ hS)) ((Rd.at_last (by rw [List.length_map]; exact c0)).trans (by rw [List.length_map]; exact at_str (by omega))) ?_
        walk_at "rd"
        refine Rd.ifB (fun eq => ?_) (fun nq => ?_)
        · have eq2 : A[A.length - 1]? = S[S.length - 1]? := by
            rw [List.getElem?_eq_getElem (by omega), List.getElem?_eq_getElem (by omega)]
            exact congrArg some (V.str.inj (of_decide_eq_true eq))
          refine ⟨fun σ' H' => ∃ (A' S' : List Str) (pA' pS' : Addr), σ' = [some (.ref a), some (.ref b), some (.ref pS'), some (.ref pA'), c] ∧ Same H H' ∧ H' pS' = some (.lst (S'.map V.str)) ∧ H' pA' = some (.lst (A'.map V.str)) ∧ S' ≠ [] ∧ M23.Prim S' ∧ (∀ i, M23.sq A' S' i = M23.sq L T i) ∧ Ok A' ∧ Ok S' ∧ A'.length < A.length,
            ?_, ?_⟩
          · rintro σ' H' ⟨A', S', pA', pS', rfl, r1, r2, r3, r4, r5, r6, r7, r8, lt⟩
            exact ⟨A'.length, lt, A', S', pA', pS', rfl, r1, r2, r3, r4, r5, r6, r7, r8, rfl⟩
          · walk_at "rd"
            refine Rd.slL (SqL.of (s4 _ _ hS)) fun q1 H5 nq1 s5 h5 => ?_
            rw [Rd.cut_last (k := S.length - 1) (by rw [List.length_map]; omega), ← List.map_drop] at h5
            walk_at "rd"
            refine Rd.slL (SqL.of (s5 _ _ (s4 _ _ hS))) fun q2 H6 nq2 s6 h6 => ?_
            rw [Rd.cut_front (k := S.length - 1) (by rw [List.length_map]; omega), ← List.map_take] at h6
            have zS := oS.few
            refine ⟨q1, q2, _, _, rfl, rfl, s6 _ _ h5, h6, Rd.small (by rw [List.length_map, List.length_map, List.length_drop, List.length_take]; omega), fun q3 nq3 => ?_⟩
            have s7 := same_new (o := HO.lst ((S.drop (S.length - 1)).map V.str ++ (S.take (S.length - 1)).map V.str)) nq3
            have o7 := upd_same (H := H6) (a := q3) (o := HO.lst ((S.drop (S.length - 1)).map V.str ++ (S.take (S.length - 1)).map V.str))
            generalize upd H6 q3 (HO.lst ((S.drop (S.length - 1)).map V.str ++ (S.take (S.length - 1)).map V.str)) = H7 at s7 o7 ⊢
            have s47 := s4.trans (s5.trans (s6.trans s7))
            walk_at "rd"
            refine Rd.slL (SqL.of (s47 _ _ hA)) fun q4 H8 nq4 s8 h8 => ?_
            rw [Rd.cut_front (k := A.length - 1) (by rw [List.length_map]; omega), ← List.map_take] at h8
            walk_at "rd"
            refine ⟨A.take (A.length - 1), M23.rot (S.length - 1) S, q4, q3, rfl, s3.trans (s47.trans s8), ?_, h8, M23.rot_ne Sne, M23.rot_prim (by omega) Sne Sp, fun i => (M23.nf_step Ane Sne eq2 i).trans (sq i), oA.take _, oS.rot _, ?_⟩
            · rw [s8 _ _ o7, ← List.map_append]
              rfl
            · rw [List.length_take]
              omega
        · refine fin fun _ z => ?_
          rw [List.getElem?_eq_getElem (by omega), List.getElem?_eq_getElem (by omega)] at z
          exact of_decide_eq_false nq (congrArg V.str (Option.some.inj z))
      · refine iteF ?_
        refine fin fun z => ?_
        exact absurd (of_decide_eq_true (by simpa using em)) z
    · refine for_it walk_range (fun i σ H' => (∃ c, σ = [some (.ref a), some (.ref b), some (.ref ps0), some (.ref pa), c]) ∧ Same H2 H' ∧ ∀ j, 0 < j → j < i + 1 → M23.rep (T.length / j) (T.take j) ≠ T) ⟨⟨_, rfl⟩, Same.refl _, fun j h1 h2 => by omega⟩ (fun _ _ _ _ _ => trivial) (fun i v σ H3 H4 hi hp hy => ?_) (fun σ H' hp => ?_)
      · obtain ⟨⟨c, rfl⟩, s3, no⟩ := hp
        obtain ⟨rfl, hv⟩ := hy
        obtain rfl : v = .int ((i + 1 : Nat) : Int) := hv.trans (congrArg V.int (show ((1 : Int) + (i : Int)) = ((i + 1 : Nat) : Int) by omega))
        have i0 : (0 : Int) < ((i + 1 : Nat) : Int) := by omega
        have tl : (T.take (i + 1)).length = i + 1 := by rw [List.length_take]; omega
        have s03 := s02.trans s3
        walk_at "rd"
        refine ⟨b, T, rfl, hT.same s03, fun p1 H5 s5 h1 => ?_⟩
        rw [cutL_to] at h1
        walk_at "rd"
        refine ⟨p1, T.take (i + 1), rfl, h1, fun p2 H6 np2 s6 h2 => ?_⟩
        walk_at "rd"
        refine ⟨_, _, rfl, (hT.same (s03.trans (s5.trans s6))).len, ?_⟩
        walk_at "rd"
        have ed : (T.length : Int) / ((i + 1 : Nat) : Int) = ((T.length / (i + 1) : Nat) : Int) := rfl
        have dle : T.length / (i + 1) ≤ T.length := Nat.div_le_self _ _
        have rl : (T.length / (i + 1)) * (T.take (i + 1)).length ≤ 60 := by
          rw [tl]
          exact Nat.le_trans (Nat.div_mul_le_self _ _) hf
        have bd : ∀ n : Nat, n ≤ 60 → -(2 ^ 63 : Int) ≤ (n : Int) ∧ (n : Int) < 2 ^ 63 := fun n h => by omega
        obtain ⟨bd1, bd2⟩ := bd _ (Nat.le_trans dle hf)
        rw [ed]
        refine ⟨p2, _, _, rfl, rfl, h2, bd1, bd2, Rd.small (by rw [Int.toNat_natCast, List.length_map, Nat.mul_comm]; omega), fun p3 np3 => ?_⟩
        rw [Int.toNat_natCast, rep_map]
        have s7 := same_new (o := HO.lst ((M23.rep (T.length / (i + 1)) (T.take (i + 1))).map V.str)) np3
        have o7 := upd_same (H := H6) (a := p3) (o := HO.lst ((M23.rep (T.length / (i + 1)) (T.take (i + 1))).map V.str))
        generalize upd H6 p3 (HO.lst ((M23.rep (T.length / (i + 1)) (T.take (i + 1))).map V.str)) = H7 at s7 o7 ⊢
        have s37 := s5.trans (s6.trans s7)
        walk_at "rd"
        refine ⟨b, T, rfl, hT.same (s03.trans s37), fun p4 H8 np4 s8 h4 => ?_⟩
        refine ⟨_, _, .lst (SqL.of (s8 _ _ o7)) (dpa_strs _), .lst (SqL.of h4) (dpa_strs T), shaped_lst ((oT.take _).rep _ rl).strs, shaped_lst oT.strs, ?_⟩
        rw [eqv_lists]
        have s38 := s37.trans s8
        walk_at "rd"
        refine Rd.ifB (fun eq => ?_) (fun nq => ?_)
        · walk_at "rd"
          refine ⟨b, T, rfl, hT.same (s03.trans s38), fun p5 H9 s9 h5 => ?_⟩
          rw [cutL_to] at h5
          walk_at "rd"
          refine ⟨p5, T.take (i + 1), rfl, h5, fun p6 H10 np6 s10 h6 => ?_⟩
          walk_at "rd"
          have sh : M23.Sh T (i + 1) := ⟨Nat.succ_pos _, by omega, of_decide_eq_true eq, fun j h1 h2 => no j h1 h2⟩
          have s310 := s38.trans (s9.trans s10)
          exact rest _ _ ⟨T.take (i + 1), p6, _, rfl, s03.trans s310, h6, (s3.trans s310) _ _ hpa, sh.ne, sh.prim, sh.sq, oT.take _⟩
        · walk_at "rd"
          refine ⟨⟨_, rfl⟩, s3.trans s38, fun j h1 h2 => ?_⟩
          by_cases g : j = i + 1
          · rw [g]
            exact of_decide_eq_false nq
          · exact no j h1 (by omega)
      · obtain ⟨⟨c, rfl⟩, s3, no⟩ := hp
        refine (no T.length n0 (by omega) ?_).elim
        rw [Nat.div_self n0, List.take_length]
        simp [M23.rep]
end
end K23

namespace K23
open PySem PySem.Spec PyProof.Rows L2
local macro_rules | `(tactic| walk_at "rd1") => `(tactic| first
  | (with_reducible refine Rd.seq ?_) | (with_reducible refine Rd.asg ?_) | (with_reducible refine Rd.ret ?_) | (with_reducible refine Rd.nxt ?_) | (with_reducible refine Rd.ifS ?_)
  | (with_reducible refine Rd.op ?_) | (with_reducible refine Rd.un ?_) | (with_reducible refine Rd.cb ?_) | (with_reducible refine Rd.cons ?_) | (with_reducible refine Rd.nil ?_) | (with_reducible refine Rd.ifx ?_)
  | (with_reducible refine Rd.test ?_) | (with_reducible refine Rd.testB ?_) | (with_reducible refine Rd.notT ?_) | (with_reducible refine Rd.isB ?_) | (with_reducible refine Rd.lst ?_) | (with_reducible refine Rd.tup ?_)
  | (with_reducible refine Rd.andV ?_) | (with_reducible refine Rd.orV ?_) | (with_reducible refine Rd.notV ?_) | (with_reducible refine Rd.andT ?_) | (with_reducible refine Rd.orT ?_) | (with_reducible refine Rd.chain ?_)
  | (with_reducible refine Rd.m0 ?_) | (with_reducible refine Rd.m1 ?_) | (with_reducible refine Rd.bm0 ?_) | (with_reducible refine Rd.bm ?_) | (with_reducible refine Rd.sl ?_) | (with_reducible refine Rd.part ?_) | (with_reducible refine Rd.part0 ?_) | (with_reducible refine Rd.isI ?_)
  | (with_reducible refine Rd.fmt ?_) | (with_reducible refine Rd.fmtRD ?_) | (with_reducible refine Rd.meth ?_) | (with_reducible refine Rd.make ?_) | (with_reducible refine Rd.prop ?_) | (with_reducible refine Rd.js ?_) | (with_reducible refine Rd.js0 ?_) | (with_reducible refine Rd.par ?_) | (with_reducible refine Rd.star ?_) | (with_reducible refine lcR1 ?_) | (with_reducible refine lcR2 ?_) | (with_reducible refine Rd.fld ?_) | (with_reducible refine Rd.sfld ?_) | (with_reducible refine Rd.expr ?_) | (with_reducible refine L2.isNR ?_) | (with_reducible refine L2.methI ?_) | (with_reducible refine Rd.forZ ?_)
  | (with_reducible refine Rd.forEA ?_) | (with_reducible refine Rd.forR1 ?_) | (with_reducible refine Rd.forR2 ?_) | (with_reducible refine Rd.forL ?_) | (with_reducible refine Rd.forT ?_)
  | (with_reducible refine Rd.call ?_) | (with_reducible refine Rd.asgG ?_) | (with_reducible refine Rd.gNm ?_) | (with_reducible refine Rd.gSb ?_) | (with_reducible refine Rd.gC ?_) | (with_reducible refine Rd.gN ?_)
  | ((with_reducible refine' Rd.var ?hv ?_); (case hv => exact rfl)) | (with_reducible refine Rd.c ?_) | (with_reducible refine Rd.i0 ?_) | (with_reducible refine Rd.neg ?_)
  | ((with_reducible refine' Rd.iC ?hc ?_); (case hc => first | (show (0 : Int) < _; decide) | exact ⟨by decide, by decide⟩ | exact ⟨by decide, by decide, by decide⟩ | exact .inl ⟨by decide, by decide⟩ | exact .inr ⟨by decide, by decide⟩ | exact .inl ⟨by omega, by omega⟩ | (show (0 : Int) < _; omega) | exact ⟨by omega, by omega⟩))
  | ((with_reducible refine' Rd.eqS ?hc ?_); (case hc => rfl)) | ((with_reducible refine' Rd.neS ?hc ?_); (case hc => rfl)))
local macro_rules | `(tactic| walk_at "rd") => `(tactic| repeat walk_at "rd1")
abbrev sAt : Stmt := topA iAt
abbrev sBehindL : Stmt := topA iBehind
abbrev sText : Stmt := topA iText
def spAt (K : PySem.W.Frag) : Sp := fun vs H Q _ => ∃ (a b : Addr) (L T : List Str) (k : Nat), vs = [.ref a, .ref b, .int ((k : Int) + 1)] ∧ SqL K H a (L.map V.str) ∧ SqL K H b (T.map V.str) ∧ T ≠ [] ∧ ∀ x, M23.sq L T k = some x → Q (.str x) H
def spBehindL (K : PySem.W.Frag) : Sp := fun vs H Q _ => ∃ (a b : Addr) (L T : List Str) (m : Nat), vs = [.ref a, .ref b, .int m] ∧ SqL K H a (L.map V.str) ∧ H b = some (.lst (T.map V.str)) ∧ Ok L ∧ Ok T ∧ T ≠ [] ∧
  ∀ (r p q : Addr) (H' : Hp) (L' T' : List Str), H r = none → Same H H' → H' r = some (.tup [.ref p, .ref q]) → SqT K H' p (L'.map V.str) → SqT K H' q (T'.map V.str) → Nm L' T' → (∀ i, M23.sq L' T' i = M23.sq L T (i + m)) → Q (.ref r) H'
def spTextL (K : PySem.W.Frag) : Sp := fun vs H Q _ => ∃ (a b : Addr) (L T : List Str), vs = [.ref a, .ref b] ∧ SqT K H a (L.map V.str) ∧ SqT K H b (T.map V.str) ∧ Ok L ∧ Ok T ∧ ∀ H', Same H H' → Q (.str (fillText L T)) H'
section
variable {P : Program} {w : World} {K : PySem.W.Frag} {mg : Str → Option Value} {base : Heap} {C f fN : Addr} {fd fdN : FuncData}
theorem scAt : FnScope ["_law_lead", "_law_turn", "_law_row"] ["_law_lead", "_law_turn", "_law_row"] (defScope sAt) := ⟨rfl, rfl, rfl, by decide +kernel, rfl, by decide +kernel, by decide +kernel⟩
theorem ok_at (F : FnP K "_law_at" sAt f fd) (gLen : mg "len" = none) (gInt : mg "int" = none) : FnOk P w K mg base CX0 1 f fd ["_law_lead", "_law_turn", "_law_row"] (spAt K) := by
  refine F.ok scAt (fun vs H Q E h => ?_) (fun cdv A outer s H vs Q E hr h => ?_)
  · obtain ⟨a, b, L, U, k, rfl, _⟩ := h
    rfl
  · obtain ⟨a, b, L, U, k, rfl, hL, hU, hne, q⟩ := h
    refine ⟨_, PSs.nox (pss_one (ps_ret (pe_ifExp (pt_cmpR op_le (pv 2) (pe_callB call_len rfl gLen boot_len (pa_cons (pv 0) pa_nil)) (nomark _)) (pe_ix ix_list (pv 0) (pe_op op_sub (pv 2) pe_int) (fun _ _ => rfl))
      (pe_ix ix_list (pv 1) (pe_op op_mod (pe_callTy call_int1 rfl gInt boot_int (pa_cons (pe_op op_sub (pe_op op_sub (pv 2) pe_int) (pe_callB call_len rfl gLen boot_len (pa_cons (pv 0) pa_nil))) pa_nil)) (pe_callB call_len rfl gLen boot_len (pa_cons (pv 1) pa_nil))) (fun _ _ => rfl))))), ?_⟩
    have n0 := List.length_pos_iff.mpr hne
    have lenL : LenV K (.ref a) H L.length := .inl ⟨_, hL, by rw [List.length_map]⟩
    have lenU : LenV K (.ref b) H U.length := .inl ⟨_, hU, by rw [List.length_map]⟩
    have e1 : (k : Int) + 1 - 1 = (k : Int) := by omega
    walk_at "rd"
    refine ⟨_, _, rfl, lenL, ?_⟩
    walk_at "rd"
    refine Rd.ifB (fun z => ?_) (fun z => ?_)
    · have kl : k < L.length := by
        have y := of_decide_eq_true z
        omega
      walk_at "rd"
      rw [e1]
      refine Rd.ixL' hL ((Rd.at_nat (by rw [List.length_map]; exact kl)).trans (at_str kl)) ?_
      exact q _ ((M23.sq_lo kl).trans (List.getElem?_eq_getElem kl))
    · have kl : L.length ≤ k := by
        have y := of_decide_eq_false z
        omega
      walk_at "rd"
      refine ⟨_, _, rfl, lenL, ?_⟩
      walk_at "rd"
      refine .inl ⟨_, rfl, ?_⟩
      walk_at "rd"
      refine ⟨_, _, rfl, lenU, ?_⟩
      walk_at "rd"
      have em : ((k : Int) + 1 - 1 - (L.length : Int)) % (U.length : Int) = (((k - L.length) % U.length : Nat) : Int) := by
        rw [e1, show (k : Int) - (L.length : Int) = ((k - L.length : Nat) : Int) by omega]
        rfl
      rw [em]
      have ml := Nat.mod_lt (k - L.length) n0
      refine Rd.ixL' hU ((Rd.at_nat (by rw [List.length_map]; exact ml)).trans (at_str ml)) ?_
      exact q _ ((M23.sq_hi kl).trans (List.getElem?_eq_getElem ml))
theorem scBehindL : FnScope ["_law_lead", "_law_turn", "_law_many", "_law_at_here"] ["_law_lead", "_law_turn", "_law_many"] (defScope sBehindL) := ⟨rfl, rfl, rfl, by decide +kernel, rfl, by decide +kernel, by decide +kernel⟩
theorem ok_behindL (F : FnP K "_law_behind" sBehindL f fd) (FN : FnP K "_law_normal" sNormal fN fdN) (GN : FnOk P w K mg base CX0 1 fN fdN ["_law_lead", "_law_turn"] (spNormal K)) (gN : mg "_law_normal" = some (.ref fN)) (gLen : mg "len" = none) (gInt : mg "int" = none) :
    FnOk P w K mg base CX0 2 f fd ["_law_lead", "_law_turn", "_law_many"] (spBehindL K) := by
  have bN : Binds K fdN ["_law_lead", "_law_turn"] [] := FN.bindsN fun _ _ _ _ _ _ us hl => match us, hl with | [_, _], _ => rfl
  refine F.ok scBehindL (fun vs H Q E h => ?_) (fun cdv A outer s H vs Q E hr h => ?_)
  · obtain ⟨a, b, L, U, m, rfl, _⟩ := h
    rfl
  · obtain ⟨a, b, L, U, m, rfl, hL, hU, oL, oU, hne, q⟩ := h
    refine ⟨_, PSs.nox (pss_cons (ps_if (pt_cmpR op_le (pv 2) (pe_callB call_len rfl gLen boot_len (pa_cons (pv 0) pa_nil)) (nomark _))
        (pss_one (ps_ret (pe_call GN hr rfl gN FN.kp bN .nil pass0 (pa_cons (pe_slice sl_N (pv 0) (po_some (pv 2)) po_none) (pa_cons (pv 1) pa_nil))))) pss_nil)
      (pss_cons (ps_set (i := 3) scBehindL.nd rfl (Or.inl rfl) (pe_op op_mod (pe_callTy call_int1 rfl gInt boot_int (pa_cons (pe_op op_sub (pv 2) (pe_callB call_len rfl gLen boot_len (pa_cons (pv 0) pa_nil))) pa_nil)) (pe_callB call_len rfl gLen boot_len (pa_cons (pv 1) pa_nil))))
      (pss_one (ps_ret (pe_call GN hr rfl gN FN.kp bN .nil pass0 (pa_cons (pe_lst pa_nil) (pa_cons (pe_op op_cat (pe_slice sl_list (pv 1) (po_some (pv 3)) po_none) (pe_slice sl_list (pv 1) po_none (po_some (pv 3)))) pa_nil))))))), ?_⟩
    have n0 := List.length_pos_iff.mpr hne
    have lenL : LenV K (.ref a) H L.length := .inl ⟨_, hL, by rw [List.length_map]⟩
    walk_at "rd"
    refine ⟨_, _, rfl, lenL, ?_⟩
    walk_at "rd"
    refine Rd.ifB (fun z => ?_) (fun z => ?_)
    · have ml : m ≤ L.length := by
        have y := of_decide_eq_true z
        omega
      walk_at "rd"
      refine ⟨a, L, rfl, .inl hL, fun p1 H1 s1 h1 => ?_⟩
      rw [cutL_from ml] at h1
      walk_at "rd"
      exact ⟨p1, b, L.drop m, U, rfl, h1, .inl (SqL.of (s1 _ _ hU)), oL.drop _, oU, hne, fun r p q' H' L' T' nr s2 hr2 hp hq nm sq => q r p q' H' L' T' (s1.free nr) (s1.trans s2) hr2 hp hq nm fun i => (sq i).trans (M23.w_drop ml i)⟩
    · have ml : L.length ≤ m := by
        have y := of_decide_eq_false z
        omega
      walk_at "rd"
      refine ⟨_, _, rfl, lenL, ?_⟩
      walk_at "rd"
      refine .inl ⟨_, rfl, ?_⟩
      walk_at "rd"
      refine ⟨_, U.length, rfl, .inl ⟨_, SqL.of hU, by rw [List.length_map]⟩, ?_⟩
      walk_at "rd"
      have em : ((m : Int) - (L.length : Int)) % (U.length : Int) = (((m - L.length) % U.length : Nat) : Int) := by
        rw [show (m : Int) - (L.length : Int) = ((m - L.length : Nat) : Int) by omega]
        rfl
      have rl := Nat.mod_lt (m - L.length) n0
      refine ⟨Rd.small (by show 0 ≤ 100000; decide), fun e0 ne0 => ?_⟩
      have s1 := same_new (o := HO.lst []) ne0
      have o1 := upd_same (H := H) (a := e0) (o := HO.lst [])
      generalize upd H e0 (HO.lst []) = H1 at s1 o1 ⊢
      walk_at "rd"
      rw [em]
      generalize er : (m - L.length) % U.length = r at rl em ⊢
      refine Rd.slL (SqL.of (s1 _ _ hU)) fun q1 H5 nq1 s5 h5 => ?_
      rw [Rd.cut_from (by rw [List.length_map]; omega), ← List.map_drop] at h5
      walk_at "rd"
      refine Rd.slL (SqL.of (s5 _ _ (s1 _ _ hU))) fun q2 H6 nq2 s6 h6 => ?_
      rw [Rd.cut_to, ← List.map_take] at h6
      have zU := oU.few
      refine ⟨q1, q2, _, _, rfl, rfl, s6 _ _ h5, h6, Rd.small (by rw [List.length_map, List.length_map, List.length_drop, List.length_take]; omega), fun q3 nq3 => ?_⟩
      have s7 := same_new (o := HO.lst ((U.drop r).map V.str ++ (U.take r).map V.str)) nq3
      have o7 := upd_same (H := H6) (a := q3) (o := HO.lst ((U.drop r).map V.str ++ (U.take r).map V.str))
      generalize upd H6 q3 (HO.lst ((U.drop r).map V.str ++ (U.take r).map V.str)) = H7 at s7 o7 ⊢
      have s57 := s5.trans (s6.trans s7)
      walk_at "rd"
      exact ⟨e0, q3, [], M23.rot r U, rfl, .inl (SqL.of (s57 _ _ o1)), .inl (SqL.of (by rw [o7, ← List.map_append]; rfl)), ⟨by decide, fun _ h => absurd h List.not_mem_nil⟩, oU.rot _, M23.rot_ne hne,
        fun r' p q' H' L' T' nr s8 hr2 hp hq nm sq => q r' p q' H' L' T' (s1.free (s57.free nr)) (s1.trans (s57.trans s8)) hr2 hp hq nm fun i => (sq i).trans (M23.w_behind ml hne er.symm i)⟩
theorem scText : FnScope ["_law_lead", "_law_turn"] ["_law_lead", "_law_turn"] (defScope sText) := ⟨rfl, rfl, rfl, by decide +kernel, rfl, by decide +kernel, by decide +kernel⟩
theorem ok_text (F : FnP K "_law_text" sText f fd) (gList : mg "list" = none) : FnOk P w K mg base CX0 1 f fd ["_law_lead", "_law_turn"] (spTextL K) := by
  refine F.ok scText (fun vs H Q E h => ?_) (fun cdv A outer s H vs Q E hr h => ?_)
  · obtain ⟨a, b, L, U, rfl, _⟩ := h
    rfl
  · obtain ⟨a, b, L, U, rfl, hL, hU, oL, oU, q⟩ := h
    refine ⟨_, PSs.nox (pss_one (ps_ret (pe_op op_add_str (pe_op op_add_str (pe_op op_add_str (pe_join pe_str (pe_op op_cat (pe_callTy call_listN rfl gList (by decide +kernel) (pa_cons (pv 0) pa_nil)) (pe_lst (pa_cons pe_str pa_nil)))) pe_str) (pe_join pe_str (pv 1))) pe_str))), ?_⟩
    have d1 : (" " : Str).length = 1 := by decide +kernel
    have d2 : ("(" : Str).length = 1 := by decide +kernel
    have d3 : (")" : Str).length = 1 := by decide +kernel
    have d0 : ("" : Str) = Str.empty := by decide +kernel
    have d4 : Str.empty.length = 0 := by decide +kernel
    have tj : ∀ (x : Str) l, Txt.join x l = Str.join x l := StrLaws.glued_eq_join
    have j1 := oU.join
    have j2 := oU.sum
    have j3 := oU.few
    have l1 := oL.sum
    have l2 := oL.few
    walk_at "rd"
    refine ⟨⟨_, rfl⟩, ?_⟩
    walk_at "rd"
    refine ⟨a, L, rfl, .inr hL, fun p1 H1 np1 s1 h1 => ?_⟩
    walk_at "rd"
    refine ⟨Rd.small (by show 1 ≤ 100000; decide), fun p2 np2 => ?_⟩
    have s2 := same_new (o := HO.lst [V.str ""]) np2
    have o2 := upd_same (H := H1) (a := p2) (o := HO.lst [V.str ""])
    generalize upd H1 p2 (HO.lst [V.str ""]) = H2 at s2 o2 ⊢
    refine ⟨p1, p2, _, _, rfl, rfl, s2 _ _ h1, o2, Rd.small (by rw [List.length_map]; show L.length + 1 ≤ 100000; omega), fun p3 np3 => ?_⟩
    have s3 := same_new (o := HO.lst (L.map V.str ++ [V.str ""])) np3
    have o3 := upd_same (H := H2) (a := p3) (o := HO.lst (L.map V.str ++ [V.str ""]))
    generalize upd H2 p3 (HO.lst (L.map V.str ++ [V.str ""])) = H3 at s3 o3 ⊢
    have s03 := s1.trans (s2.trans s3)
    have sm : ((L ++ [Str.empty]).map (fun x : Str => x.length)).sum ≤ 480 := by
      rw [List.map_append, List.sum_append, List.map_cons, List.map_nil, List.sum_cons, List.sum_nil, d4]
      omega
    have jl := jn_len " " (L ++ [Str.empty])
    rw [d1, List.length_append] at jl
    have jl2 : (Str.join " " (L ++ [Str.empty])).length ≤ 541 := by
      have e : ([Str.empty] : List Str).length = 1 := rfl
      omega
    refine ⟨" ", p3, L ++ [Str.empty], rfl, rfl, .inl (SqL.of (by rw [o3, List.map_append, ← d0]; rfl)), by rw [d1, List.length_append]; show _ + (L.length + 1) * 1 ≤ 16777216; omega, ?_⟩
    rw [tj]
    walk_at "rd"
    refine ⟨_, _, rfl, rfl, Rd.small (by rw [d2]; omega), ?_⟩
    walk_at "rd"
    refine ⟨⟨_, rfl⟩, ?_⟩
    walk_at "rd"
    refine ⟨" ", b, U, rfl, rfl, .inr (hU.ext s03), by rw [d1]; omega, ?_⟩
    rw [tj]
    refine ⟨_, _, rfl, rfl, Rd.small (by rw [Str.length_append, d2]; omega), ?_⟩
    walk_at "rd"
    refine ⟨_, _, rfl, rfl, Rd.small (by rw [Str.length_append, Str.length_append, d2, d3]; omega), ?_⟩
    have z := q H3 s03
    unfold fillText at z
    rw [jn_end, Str.empty_append, ← Str.append_assoc, ← Str.append_assoc] at z
    exact z
end
end K23

namespace K23
open PySem PySem.Spec PyProof.Rows L2
local macro_rules | `(tactic| walk_at "rd1") => `(tactic| first
  | (with_reducible refine Rd.seq ?_) | (with_reducible refine Rd.asg ?_) | (with_reducible refine Rd.ret ?_) | (with_reducible refine Rd.nxt ?_) | (with_reducible refine Rd.ifS ?_)
  | (with_reducible refine Rd.op ?_) | (with_reducible refine Rd.un ?_) | (with_reducible refine Rd.cb ?_) | (with_reducible refine Rd.cons ?_) | (with_reducible refine Rd.nil ?_) | (with_reducible refine Rd.ifx ?_)
  | (with_reducible refine Rd.test ?_) | (with_reducible refine Rd.testB ?_) | (with_reducible refine Rd.notT ?_) | (with_reducible refine Rd.isB ?_) | (with_reducible refine Rd.lst ?_) | (with_reducible refine Rd.tup ?_)
  | (with_reducible refine Rd.andV ?_) | (with_reducible refine Rd.orV ?_) | (with_reducible refine Rd.notV ?_) | (with_reducible refine Rd.andT ?_) | (with_reducible refine Rd.orT ?_) | (with_reducible refine Rd.chain ?_)
  | (with_reducible refine Rd.m0 ?_) | (with_reducible refine Rd.m1 ?_) | (with_reducible refine Rd.bm0 ?_) | (with_reducible refine Rd.bm ?_) | (with_reducible refine Rd.sl ?_) | (with_reducible refine Rd.part ?_) | (with_reducible refine Rd.part0 ?_) | (with_reducible refine Rd.isI ?_)
  | (with_reducible refine Rd.fmt ?_) | (with_reducible refine Rd.fmtRD ?_) | (with_reducible refine Rd.meth ?_) | (with_reducible refine Rd.make ?_) | (with_reducible refine Rd.prop ?_) | (with_reducible refine Rd.js ?_) | (with_reducible refine Rd.js0 ?_) | (with_reducible refine Rd.par ?_) | (with_reducible refine Rd.star ?_) | (with_reducible refine lcR1 ?_) | (with_reducible refine lcR2 ?_) | (with_reducible refine Rd.fld ?_) | (with_reducible refine Rd.sfld ?_) | (with_reducible refine Rd.expr ?_) | (with_reducible refine L2.isNR ?_) | (with_reducible refine L2.methI ?_) | (with_reducible refine Rd.forZ ?_)
  | (with_reducible refine Rd.forEA ?_) | (with_reducible refine Rd.forR1 ?_) | (with_reducible refine Rd.forR2 ?_) | (with_reducible refine Rd.forL ?_) | (with_reducible refine Rd.forT ?_)
  | (with_reducible refine Rd.call ?_) | (with_reducible refine Rd.asgG ?_) | (with_reducible refine Rd.gNm ?_) | (with_reducible refine Rd.gSb ?_) | (with_reducible refine Rd.gC ?_) | (with_reducible refine Rd.gN ?_)
  | ((with_reducible refine' Rd.var ?hv ?_); (case hv => exact rfl)) | (with_reducible refine Rd.c ?_) | (with_reducible refine Rd.i0 ?_) | (with_reducible refine Rd.neg ?_)
  | ((with_reducible refine' Rd.iC ?hc ?_); (case hc => first | (show (0 : Int) < _; decide) | exact ⟨by decide, by decide⟩ | exact ⟨by decide, by decide, by decide⟩ | exact .inl ⟨by decide, by decide⟩ | exact .inr ⟨by decide, by decide⟩ | exact .inl ⟨by omega, by omega⟩ | (show (0 : Int) < _; omega) | exact ⟨by omega, by omega⟩))
  | ((with_reducible refine' Rd.eqS ?hc ?_); (case hc => rfl)) | ((with_reducible refine' Rd.neS ?hc ?_); (case hc => rfl)))
local macro_rules | `(tactic| walk_at "rd") => `(tactic| repeat walk_at "rd1")
abbrev sIs : Stmt := topA iIs
/-- what the text of a fill is read as -/
def spRead (K : PySem.W.Frag) (C : Addr) : Sp := fun vs H Q _ => ∃ (L T : List Str), vs = [.str (fillText L T)] ∧ Nm L T ∧ ∀ (x : Addr) (H' : Hp), Same H H' → FillAt K C H' x L T → Q (.ref x) H'
def spIs (K : PySem.W.Frag) (C : Addr) : Sp := fun vs H Q _ => ∃ (x r p q : Addr) (L T : List Str), vs = [.ref x, .ref r] ∧ FillAt K C H x L T ∧ Nm L T ∧ SqT K H r [.ref p, .ref q] ∧ SqT K H p (L.map V.str) ∧ SqT K H q (T.map V.str) ∧ ∀ H', Same H H' → Q (.bl true) H'
/-- the methods of the class -/
structure Ms (K : PySem.W.Frag) (C fE fS fR : Addr) : Prop where
  eq : OwnM K C "__eq__" fE
  st : OwnM K C "__str__" fS
  rp : OwnM K C "__repr__" fR
  ne : PySem.W.findIn K (.ref C) "__ne__" = some (some (.builtin "object.__ne__"))
  first : PySem.W.notFirst K C (.ref C) = true
  firstT : PySem.W.notFirst K C (.type "tuple") = true
def pairD (L T : List Str) : PyData := .list [.tuple (L.map .str), .tuple (T.map .str)]
theorem pair_show (L T : List Str) (oL : Ok L) (oT : Ok T) : (pairD L T).showable = true ∧ (pairD L T).depth ≤ 20 ∧ (pairD L T).shown.length ≤ 3000 := by
  refine ⟨?_, ?_, ?_⟩
  · simp only [pairD, PyData.showable, PyData.showableAll, showable_strs, Bool.and_self]
  · simp only [pairD, PyData.depth, PyData.depthAll, depth_strs]
    decide
  · rw [pairD, PyData.shown_list, Str.length_append, Str.length_append]
    have a := jn_len ", " (PyData.shownAll [.tuple (L.map .str), .tuple (T.map .str)])
    rw [PyData.shownAll_cons, PyData.shownAll_cons, PyData.shownAll_nil] at a ⊢
    have z1 := oL.shown
    have z2 := oT.shown
    have d : (", " : Str).length = 2 := by decide +kernel
    have e : ("[" : Str).length = 1 := by decide +kernel
    have f : ("]" : Str).length = 1 := by decide +kernel
    rw [List.map_cons, List.map_cons, List.map_nil, List.sum_cons, List.sum_cons, List.sum_nil, d] at a
    have g : [(PyData.tuple (L.map .str)).shown, (PyData.tuple (T.map .str)).shown].length = 2 := rfl
    rw [g] at a
    rw [e, f]
    omega
theorem rRepr_pair {K : PySem.W.Frag} {H : Hp} {Q : VK} {a p q : Addr} {L T : List Str} (oL : Ok L) (oT : Ok T) (ha : SqL K H a [.ref p, .ref q]) (hp : SqT K H p (L.map V.str)) (hq : SqT K H q (T.map V.str)) (k : Q (.str (pairD L T).shown) H) : rRepr K [.ref a] H Q :=
  have z := pair_show L T oL oT
  ⟨a, pairD L T, rfl, .lst ha (.cons (.tup hp (dds_strs L)) (.cons (.tup hq (dds_strs T)) .nil)), z.1, z.2.1, Rd.small (Nat.le_trans z.2.2 (by decide)), k⟩
theorem rRepr_tup {K : PySem.W.Frag} {H : Hp} {Q : VK} {p : Addr} {L : List Str} (oL : Ok L) (hp : SqT K H p (L.map V.str)) (k : Q (.str (PyData.tuple (L.map .str)).shown) H) : rRepr K [.ref p] H Q :=
  ⟨p, .tuple (L.map .str), rfl, .tup hp (dds_strs L), by rw [PyData.showable, showable_strs], by rw [PyData.depth, depth_strs]; decide, Rd.small (Nat.le_trans oL.shown (by decide)), k⟩
section
variable {P : Program} {w : World} {K : PySem.W.Frag} {mg : Str → Option Value} {base : Heap} {C f fT fR fE fSm fRm fL fU gL gU : Addr} {fd fdT fdR fdE fdS fdM fdL fdU : FuncData} {lv : Nat}
theorem scIs : FnScope ["_law_fill", "_law_normal_here", "_law_text_here"] ["_law_fill", "_law_normal_here"] (defScope sIs) := ⟨rfl, rfl, rfl, by decide +kernel, rfl, by decide +kernel, by decide +kernel⟩
theorem ok_is (F : FnP K "_law_is" sIs f fd) (T : Fc K mg C) (M : Ms K C fE fSm fRm) (FT : FnP K "_law_text" sText fT fdT) (GT : FnOk P w K mg base CX0 1 fT fdT ["_law_lead", "_law_turn"] (spTextL K)) (gT : mg "_law_text" = some (.ref fT))
    (GL : FnOk P w K mg base CX0 1 fL fdL ["self"] (spGet K C true)) (bL : Binds K fdL ["self"] []) (pL : PropOf K C "lead" gL fL) (GU : FnOk P w K mg base CX0 1 fU fdU ["self"] (spGet K C false)) (bU : Binds K fdU ["self"] []) (pU : PropOf K C "turn" gU fU)
    (GE : FnOk P w K mg base CX0 1 fE fdE ["self", "other"] (spEqF K C)) (bE : Binds K fdE ["self", "other"] []) (GS : FnOk P w K mg base CX0 1 fSm fdS ["self"] (spText K C fillText)) (bS : Binds K fdS ["self"] []) (GM : FnG P w K mg base CX0 1 fRm fdM ["self"] (spText K C fillRepr)) (bM : Binds K fdM ["self"] [])
    (GR : FnG P w K mg base CX0 (lv + 3) fR fdR ["text"] (spRead K C)) (bR : Binds K fdR ["text"] []) (kR : PySem.W.keepIn K (.ref fR) = true) (gR : mg "read_fill" = some (.ref fR)) (gRepr : mg "repr" = none) (gStr : mg "str" = none) (sm : smOk K = true) :
    FnG P w K mg base CX0 (lv + 4) f fd ["_law_fill", "_law_normal_here"] (spIs K C) := by
  have bT : Binds K fdT ["_law_lead", "_law_turn"] [] := FT.bindsN fun _ _ _ _ _ _ us hl => match us, hl with | [_, _], _ => rfl
  refine F.okG scIs (fun vs H Q E h => ?_) (fun cdv A outer s H vs Q E hgu hr h => ?_)
  · obtain ⟨x, r, p, q, L, U, rfl, _⟩ := h
    rfl
  · obtain ⟨x, r, p, q, L, U, rfl, hF, nm, h0, hp, hq, k⟩ := h
    have r1 := hr.mono (show 1 ≤ lv + 3 by omega)
    have r2 := hr.mono (show 2 ≤ lv + 3 by omega)
    have r3 := hr.mono (show 3 ≤ lv + 3 by omega)
    refine ⟨_, PSs.nox (pss_cons (ps_if (pt_cmpR op_ne (pe_callB (call_reprD hgu hr.units sm) rfl gRepr (by decide +kernel) (pa_cons (pe_lst (pa_cons (pe_prop (pv 0) T.cl pL GL r2 bL .nil pass0 rfl) (pa_cons (pe_prop (pv 0) T.cl pU GU r2 bU .nil pass0 rfl) pa_nil))) pa_nil))
          (pe_callB (call_reprD hgu hr.units sm) rfl gRepr (by decide +kernel) (pa_cons (pe_lst (pa_cons (pe_ix ix_tup (pv 1) pe_int (fun _ _ => rfl)) (pa_cons (pe_ix ix_tup (pv 1) pe_int (fun _ _ => rfl)) pa_nil))) pa_nil)) (nomark _)) (pss_one (ps_ret pe_bl)) pss_nil)
      (pss_cons (ps_set (i := 2) scIs.nd rfl (Or.inl rfl) (pe_call GT r1 rfl gT FT.kp bT .nil pass0 (pa_cons (pe_ix ix_tup (pv 1) pe_int (fun _ _ => rfl)) (pa_cons (pe_ix ix_tup (pv 1) pe_int (fun _ _ => rfl)) pa_nil))))
      (pss_cons (ps_if (PW.pt (pw_or (pt_cmpR op_ne (pe_callTy (call_strI GS.g M.st bS pass0 hgu r3) rfl gStr (by decide +kernel) (pa_cons (pv 0) pa_nil)) (pv 2) (nomark _))
          (pw_or1 (pt_cmpR op_ne (pe_callB (call_reprI GM M.rp bM pass0 hgu r2) rfl gRepr (by decide +kernel) (pa_cons (pv 0) pa_nil))
            (pe_op op_add_str (pe_op op_add_str (pe_op op_add_str (pe_op op_add_str pe_str (pe_callB (call_reprD hgu hr.units sm) rfl gRepr (by decide +kernel) (pa_cons (pe_ix ix_tup (pv 1) pe_int (fun _ _ => rfl)) pa_nil))) pe_str) (pe_callB (call_reprD hgu hr.units sm) rfl gRepr (by decide +kernel) (pa_cons (pe_ix ix_tup (pv 1) pe_int (fun _ _ => rfl)) pa_nil))) pe_str) (nomark _))))) (pss_one (ps_ret pe_bl)) pss_nil)
      (pss_one (ps_ret (pe_cmpR (op_eqI GE.g M.eq bE pass0 hgu r1) (pe_callG GR hgu hr rfl gR kR bR pass0 (pa_cons (pv 2) pa_nil)) (pv 0) (nomark _))))))), ?_⟩
    obtain ⟨dx, p1, q1, ha, hp1, hq1⟩ := id hF
    have e5 : ("Fill(" : Str).length = 5 := by decide +kernel
    have e2 : (", " : Str).length = 2 := by decide +kernel
    have e3 : (")" : Str).length = 1 := by decide +kernel
    have zL := nm.oL.shown
    have zU := nm.oT.shown
    have i0 : ∀ {G : Hp}, Same H G → SqT K G r [.ref p, .ref q] := fun s => h0.ext s
    walk_at "rd"
    refine ⟨x, dx, _, rfl, ha, x, L, U, rfl, hF, fun p2 hp2 => ?_⟩
    walk_at "rd"
    refine ⟨x, dx, _, rfl, ha, x, L, U, rfl, hF, fun q2 hq2 => ?_⟩
    walk_at "rd"
    refine ⟨Rd.small (by show 2 ≤ 100000; decide), fun l1 n1 => ?_⟩
    have s1 := same_new (o := HO.lst [V.ref p2, V.ref q2]) n1
    have o1 := upd_same (H := H) (a := l1) (o := HO.lst [V.ref p2, V.ref q2])
    generalize upd H l1 (HO.lst [V.ref p2, V.ref q2]) = H1 at s1 o1 ⊢
    walk_at "rd"
    refine rRepr_pair nm.oL nm.oT (SqL.of o1) (hp2.ext s1) (hq2.ext s1) ?_
    walk_at "rd"
    refine Rd.ixT (i0 s1) (atI_nat (j := 0) rfl) ?_
    walk_at "rd"
    refine Rd.ixT (i0 s1) (atI_nat (j := 1) rfl) ?_
    walk_at "rd"
    refine ⟨Rd.small (by show 2 ≤ 100000; decide), fun l2 n2 => ?_⟩
    have s2 := same_new (o := HO.lst [V.ref p, V.ref q]) n2
    have o2 := upd_same (H := H1) (a := l2) (o := HO.lst [V.ref p, V.ref q])
    generalize upd H1 l2 (HO.lst [V.ref p, V.ref q]) = H2 at s2 o2 ⊢
    have s02 := s1.trans s2
    walk_at "rd"
    refine rRepr_pair nm.oL nm.oT (SqL.of o2) (hp.ext s02) (hq.ext s02) ?_
    walk_at "rd"
    refine Rd.ifB (fun z => ?_) (fun _ => ?_)
    · simp at z
    walk_at "rd"
    refine Rd.ixT (i0 s02) (atI_nat (j := 0) rfl) ?_
    walk_at "rd"
    refine Rd.ixT (i0 s02) (atI_nat (j := 1) rfl) ?_
    walk_at "rd"
    refine ⟨p, q, L, U, rfl, hp.ext s02, hq.ext s02, nm.oL, nm.oT, fun H3 s3 => ?_⟩
    have s03 := s02.trans s3
    walk_at "rd"
    refine ⟨x, dx, _, rfl, s03 _ _ ha, x, L, U, rfl, hF.same s03, nm.oL, nm.oT, fun H4 s4 => ⟨_, rfl, ?_⟩⟩
    have s04 := s03.trans s4
    walk_at "rd"
    refine Rd.ifB (fun z => ?_) (fun _ => ?_)
    · simp at z
    walk_at "rd"
    refine ⟨x, dx, _, rfl, s04 _ _ ha, x, L, U, rfl, hF.same s04, nm.oL, nm.oT, fun H5 s5 => ⟨_, rfl, ?_⟩⟩
    have s05 := s04.trans s5
    walk_at "rd"
    refine Rd.ixT (i0 s05) (atI_nat (j := 0) rfl) ?_
    walk_at "rd"
    refine rRepr_tup nm.oL (hp.ext s05) ?_
    refine ⟨_, _, rfl, rfl, Rd.small (by rw [e5]; omega), ?_⟩
    have f1 : ("Fill(" ++ (PyData.tuple (L.map .str)).shown : Str).length ≤ 1005 := by rw [Str.length_append, e5]; omega
    walk_at "rd"
    refine ⟨_, _, rfl, rfl, Rd.small (by omega), ?_⟩
    have f2 : (("Fill(" ++ (PyData.tuple (L.map .str)).shown) ++ ", " : Str).length ≤ 1007 := by rw [Str.length_append, e2]; omega
    walk_at "rd"
    refine Rd.ixT (i0 s05) (atI_nat (j := 1) rfl) ?_
    walk_at "rd"
    refine rRepr_tup nm.oT (hq.ext s05) ?_
    refine ⟨_, _, rfl, rfl, Rd.small (by omega), ?_⟩
    have f3 : ((("Fill(" ++ (PyData.tuple (L.map .str)).shown) ++ ", ") ++ (PyData.tuple (U.map .str)).shown : Str).length ≤ 2007 := by rw [Str.length_append]; omega
    walk_at "rd"
    refine ⟨_, _, rfl, rfl, Rd.small (by omega), ?_⟩
    walk_at "rd"
    refine Rd.ifB (fun z => ?_) (fun _ => ?_)
    · unfold fillRepr at z
      rw [Str.empty_append] at z
      simp at z
    walk_at "rd"
    refine ⟨L, U, rfl, nm, fun y H6 s6 hy => ?_⟩
    have s06 := s05.trans s6
    walk_at "rd"
    obtain ⟨dy, p3, q3, hb, _, _⟩ := id hy
    refine ⟨y, dy, _, .ref C, rfl, hb, .base (.ins (s06 _ _ ha) T.cl T.hcl T.hgt T.htk T.hmo), M.first, y, .ref x, L, U, rfl, hy, nm.oL, nm.oT, .inl ⟨x, L, U, rfl, hF.same s06, nm.oL, nm.oT, _, rfl, ?_⟩⟩
    rw [decide_eq_true rfl, decide_eq_true rfl]
    exact k H6 s06
end
end K23

namespace K23
open PySem PySem.Spec PyProof.Rows L2
local macro_rules | `(tactic| walk_at "rd1") => `(tactic| first
  | (with_reducible refine Rd.seq ?_) | (with_reducible refine Rd.asg ?_) | (with_reducible refine Rd.ret ?_) | (with_reducible refine Rd.nxt ?_) | (with_reducible refine Rd.ifS ?_)
  | (with_reducible refine Rd.op ?_) | (with_reducible refine Rd.un ?_) | (with_reducible refine Rd.cb ?_) | (with_reducible refine Rd.cons ?_) | (with_reducible refine Rd.nil ?_) | (with_reducible refine Rd.ifx ?_)
  | (with_reducible refine Rd.test ?_) | (with_reducible refine Rd.testB ?_) | (with_reducible refine Rd.notT ?_) | (with_reducible refine Rd.isB ?_) | (with_reducible refine Rd.lst ?_) | (with_reducible refine Rd.tup ?_)
  | (with_reducible refine Rd.andV ?_) | (with_reducible refine Rd.orV ?_) | (with_reducible refine Rd.notV ?_) | (with_reducible refine Rd.andT ?_) | (with_reducible refine Rd.orT ?_) | (with_reducible refine Rd.chain ?_)
  | (with_reducible refine Rd.m0 ?_) | (with_reducible refine Rd.m1 ?_) | (with_reducible refine Rd.bm0 ?_) | (with_reducible refine Rd.bm ?_) | (with_reducible refine Rd.sl ?_) | (with_reducible refine Rd.part ?_) | (with_reducible refine Rd.part0 ?_) | (with_reducible refine Rd.isI ?_)
  | (with_reducible refine Rd.fmt ?_) | (with_reducible refine Rd.fmtRD ?_) | (with_reducible refine Rd.meth ?_) | (with_reducible refine Rd.make ?_) | (with_reducible refine Rd.prop ?_) | (with_reducible refine Rd.js ?_) | (with_reducible refine Rd.js0 ?_) | (with_reducible refine Rd.par ?_) | (with_reducible refine Rd.star ?_) | (with_reducible refine lcR1 ?_) | (with_reducible refine lcR2 ?_) | (with_reducible refine Rd.fld ?_) | (with_reducible refine Rd.sfld ?_) | (with_reducible refine Rd.expr ?_) | (with_reducible refine L2.isNR ?_) | (with_reducible refine L2.methI ?_) | (with_reducible refine Rd.forZ ?_)
  | (with_reducible refine Rd.forEA ?_) | (with_reducible refine Rd.forR1 ?_) | (with_reducible refine Rd.forR2 ?_) | (with_reducible refine Rd.forL ?_) | (with_reducible refine Rd.forT ?_)
  | (with_reducible refine Rd.call ?_) | (with_reducible refine Rd.asgG ?_) | (with_reducible refine Rd.gNm ?_) | (with_reducible refine Rd.gSb ?_) | (with_reducible refine Rd.gC ?_) | (with_reducible refine Rd.gN ?_)
  | ((with_reducible refine' Rd.var ?hv ?_); (case hv => exact rfl)) | (with_reducible refine Rd.c ?_) | (with_reducible refine Rd.i0 ?_) | (with_reducible refine Rd.neg ?_)
  | ((with_reducible refine' Rd.iC ?hc ?_); (case hc => first | (show (0 : Int) < _; decide) | exact ⟨by decide, by decide⟩ | exact ⟨by decide, by decide, by decide⟩ | exact .inl ⟨by decide, by decide⟩ | exact .inr ⟨by decide, by decide⟩ | exact .inl ⟨by omega, by omega⟩ | (show (0 : Int) < _; omega) | exact ⟨by omega, by omega⟩))
  | ((with_reducible refine' Rd.eqS ?hc ?_); (case hc => rfl)) | ((with_reducible refine' Rd.neS ?hc ?_); (case hc => rfl)))
local macro_rules | `(tactic| walk_at "rd") => `(tactic| repeat walk_at "rd1")
abbrev sNames : Stmt := topA iNames
theorem FillAt.but {K : PySem.W.Frag} {C : Addr} {H H' : Hp} {pp a : Addr} {L T : List Str} (h : FillAt K C H a L T) (hp : PotAt H pp) (b : But pp H H') : FillAt K C H' a L T := by
  obtain ⟨dx, p, q, a1, a2, a3⟩ := h
  obtain ⟨u, v, e, _⟩ := hp
  have tp : ∀ {p : Addr} {xs : List V}, SqT K H p xs → SqT K H' p xs := fun {p xs} h => by
    have ne : ∀ {o : HO}, H p = some o → o ≠ .lst [.int u, .int v] → p ≠ pp := fun z n y => by
      rw [y, e] at z
      cases z
      exact n rfl
    rcases h with (h | ⟨o, h⟩) | h
    · exact .inl (.inl (b _ _ (ne h fun z => by cases z) h))
    · exact .inl (.inr ⟨o, b _ _ (ne h fun z => by cases z) h⟩)
    · exact .inr h
  refine ⟨dx, p, q, b _ _ (fun z => ?_) a1, tp a2, tp a3⟩
  rw [z, e] at a1
  cases a1
/-- what the names of a fill are asked of -/
structure Ne (K : PySem.W.Frag) (C pp x a b : Addr) (L T L' T' : List Str) (H : Hp) : Prop where
  pot : PotAt H pp
  fill : FillAt K C H x L' T'
  lead : H a = some (.lst (L.map V.str))
  turn : H b = some (.lst (T.map V.str))
theorem Ne.same {K : PySem.W.Frag} {C pp x a b : Addr} {L T L' T' : List Str} {H H' : Hp} (h : Ne K C pp x a b L T L' T' H) (e : Same H H') : Ne K C pp x a b L T L' T' H' := ⟨pot_same h.pot e, h.fill.same e, e _ _ h.lead, e _ _ h.turn⟩
theorem Ne.but {K : PySem.W.Frag} {C pp x a b : Addr} {L T L' T' : List Str} {H H' : Hp} (h : Ne K C pp x a b L T L' T' H) (na : a ≠ pp) (nb : b ≠ pp) (p : PotAt H' pp) (e : But pp H H') : Ne K C pp x a b L T L' T' H' := ⟨p, h.fill.but h.pot e, e _ _ na h.lead, e _ _ nb h.turn⟩
def spNames (K : PySem.W.Frag) (C : Addr) : Sp := fun vs H Q _ => ∃ (pp x a b : Addr) (L T L' T' : List Str), vs = [.ref pp, .ref x, .ref a, .ref b] ∧ Ne K C pp x a b L T L' T' H ∧ a ≠ pp ∧ b ≠ pp ∧ Nm L' T' ∧ Ok L ∧ Ok T ∧ T ≠ [] ∧ (∀ i, M23.sq L' T' i = M23.sq L T i) ∧ ∀ H', PotAt H' pp → But pp H H' → Q (.bl true) H'
theorem sq_get {L T : List Str} (hT : T ≠ []) (k : Nat) : ∃ x, M23.sq L T k = some x ∧ (x ∈ L ∨ x ∈ T) := by
  by_cases h : k < L.length
  · exact ⟨_, (M23.sq_lo h).trans (List.getElem?_eq_getElem h), .inl (List.getElem_mem h)⟩
  · have m := Nat.mod_lt (k - L.length) (List.length_pos_iff.mpr hT)
    exact ⟨_, (M23.sq_hi (by omega)).trans (List.getElem?_eq_getElem m), .inr (List.getElem_mem m)⟩
theorem names_ok {L T l : List Str} (oL : Ok L) (oT : Ok T) (hT : T ≠ []) (h : l.length ≤ 60) (hs : ∀ k, k < l.length → l[k]? = M23.sq L T k) : Ok l := ⟨h, fun x hx => by
  obtain ⟨k, hk, rfl⟩ := List.getElem_of_mem hx
  obtain ⟨y, hy, my⟩ := sq_get (L := L) hT k
  have z := hs k hk
  rw [List.getElem?_eq_getElem hk, hy] at z
  rw [Option.some.inj z]
  exact my.elim (oL.all y) (oT.all y)⟩
theorem same_names {L T L' T' l l' : List Str} (h : l.length = l'.length) (a : ∀ k, k < l.length → l[k]? = M23.sq L T k) (b : ∀ k, k < l'.length → l'[k]? = M23.sq L' T' k) (e : ∀ i, M23.sq L' T' i = M23.sq L T i) : l = l' := by
  refine List.ext_getElem? fun k => ?_
  by_cases hk : k < l.length
  · rw [a k hk, b k (by omega), e]
  · rw [List.getElem?_eq_none (by omega), List.getElem?_eq_none (by omega)]
theorem Ok.shownL {l : List Str} (h : Ok l) : (PyData.list (l.map .str)).shown.length ≤ 1000 := by
  rw [PyData.shown_list, Str.length_append, Str.length_append, PyData.shownAll_strs]
  have a := jn_len ", " (l.map reprText)
  have b : ((l.map reprText).map (·.length)).sum ≤ 600 := by
    have z := sum_le (f := fun x : Str => x.length) (B := 10) (l.map reprText) fun x hx => by
      obtain ⟨y, hy, rfl⟩ := List.mem_map.mp hx
      exact (menu_len y (h.all y hy)).2
    rw [List.length_map] at z
    have := h.few
    omega
  have c := h.few
  have d : (", " : Str).length = 2 := by decide +kernel
  have e : ("[" : Str).length = 1 := by decide +kernel
  have f : ("]" : Str).length = 1 := by decide +kernel
  rw [List.length_map, d] at a
  rw [e, f]
  omega
theorem rRepr_lst {K : PySem.W.Frag} {H : Hp} {Q : VK} {p : Addr} {l : List Str} (o : Ok l) (hp : SqL K H p (l.map V.str)) (k : Q (.str (PyData.list (l.map .str)).shown) H) : rRepr K [.ref p] H Q :=
  ⟨p, .list (l.map .str), rfl, .lst hp (dds_strs l), by rw [PyData.showable, showable_strs], by rw [PyData.depth, depth_strs]; decide, Rd.small (Nat.le_trans o.shownL (by decide)), k⟩
abbrev teAt (K : PySem.W.Frag) : TE := tCall (spAt K) [] E0 (tCons (tVar 2) (tCons (tVar 3) (tCons (tOp (rI0 fun i j => .int (i + j)) (tVar 5) (tC (.int 1))) tNil)))
theorem lcAt {K : PySem.W.Frag} {pp x a b : Addr} {L U : List Str} {n : Nat} {ii : List Nat} {c4 c5 c6 c7 : Option V} {H1 : Hp} {Q : VK} (hi : ii = [5]) (hn : n ≤ 60) (hL : H1 a = some (.lst (L.map V.str))) (hU : H1 b = some (.lst (U.map V.str))) (hne : U ≠ [])
    (q : ∀ (D : Addr) (H2 : Hp) (l : List Str), H1 D = none → Same H1 H2 → H2 D = some (.lst (l.map V.str)) → l.length = n → (∀ k, k < n → l[k]? = M23.sq L U k) → Q (.ref D) H2) :
    LcJ (Itr 0 n) 5 ii (teAt K) [some (.ref pp), some (.ref x), some (.ref a), some (.ref b), c4, c5, c6, c7] H1 Q := by
  refine lcGen (fun k acc H2 => Same H1 H2 ∧ ∃ l : List Str, acc = l.map V.str ∧ l.length = k ∧ ∀ j, j < k → l[j]? = M23.sq L U j) hi (by omega) ⟨Same.refl _, [], rfl, rfl, fun j h => by omega⟩ (fun k acc H2 D o nd j => ⟨fun b u e => by rw [upd_ne (ne_of_none e nd)]; exact j.1 b u e, j.2⟩) (fun k acc H2 Q' hk al j q' => ?_) (fun D acc H2 nD al j hD => ?_)
  · obtain ⟨s2, l, rfl, ll, ls⟩ := j
    refine Rd.call ?_
    walk_at "rd"
    refine ⟨a, b, L, U, k, by rw [Int.zero_add]; rfl, SqL.of (s2 _ _ hL), SqL.of (s2 _ _ hU), hne, fun z hz => q' _ _ (fun b o _ e => e) ⟨s2, l ++ [z], by rw [List.map_append]; rfl, by rw [List.length_append, ll]; rfl, fun j hj => ?_⟩⟩
    by_cases g : j < k
    · rw [List.getElem?_append_left (by omega), ls j g]
    · obtain rfl : j = k := by omega
      rw [List.getElem?_append_right (by omega), ll, Nat.sub_self, hz]
      rfl
  · obtain ⟨s2, l, rfl, ll, ls⟩ := j
    exact q D H2 l nD s2 hD ll ls
/-- the number of a row -/
def RowV (v : V) : Prop := ∃ k : Nat, v = .int ((k : Int) + 1) ∧ (k : Int) + 1 ≤ 10 ^ 60
/-- a number of names -/
def ManyV (v : V) : Prop := ∃ m : Nat, v = .int m ∧ (m : Int) ≤ 10 ^ 60
section
variable {P : Program} {w : World} {K : PySem.W.Frag} {mg : Str → Option Value} {base : Heap} {C f fK fF fB fA fN fI fD fE fSm fRm : Addr} {fd fdK fdF fdB fdA fdN fdI fdD fdE fdS fdM : FuncData} {lv : Nat}
abbrev nmsN : List Str := ["_law_pot_here", "_law_fill", "_law_lead", "_law_turn", "_law_rows", "_law_row", "_law_many", "_law_told"]
theorem scNames : FnScope nmsN ["_law_pot_here", "_law_fill", "_law_lead", "_law_turn"] (defScope sNames) := ⟨rfl, rfl, rfl, by decide +kernel, rfl, by decide +kernel, by decide +kernel⟩
theorem ok_names (F : FnP K "_law_names_right" sNames f fd) (T : Fc K mg C) (FD : FnP K "_law_draw" sDraw fD fdD) (GD : FnOk P w K mg base CX0 1 fD fdD ["_law_pot_here", "_law_many"] spDraw) (gD : mg "_law_draw" = some (.ref fD))
    (GK : FnOk P w K mg base CX0 2 fK fdK ["self", "row"] (spKind K C)) (bK : Binds K fdK ["self", "row"] []) (mK : Meth K C "kind_at" fK) (GF : FnOk P w K mg base CX0 3 fF fdF ["self", "many"] (spFirst K C)) (bF : Binds K fdF ["self", "many"] []) (mF : Meth K C "first" fF)
    (GB : FnOk P w K mg base CX0 5 fB fdB ["self", "many"] (spBehindF K C)) (bB : Binds K fdB ["self", "many"] []) (mB : Meth K C "behind" fB) (FA : FnP K "_law_at" sAt fA fdA) (GA : FnOk P w K mg base CX0 1 fA fdA ["_law_lead", "_law_turn", "_law_row"] (spAt K)) (gA : mg "_law_at" = some (.ref fA))
    (FN : FnP K "_law_behind" sBehindL fN fdN) (GN : FnOk P w K mg base CX0 2 fN fdN ["_law_lead", "_law_turn", "_law_many"] (spBehindL K)) (gN : mg "_law_behind" = some (.ref fN)) (FI : FnP K "_law_is" sIs fI fdI) (GI : FnG P w K mg base CX0 (lv + 5) fI fdI ["_law_fill", "_law_normal_here"] (spIs K C)) (gI : mg "_law_is" = some (.ref fI))
    (gRepr : mg "repr" = none) (gLen : mg "len" = none) (gRange : mg "range" = none) (sm : smOk K = true) : FnG P w K mg base CX0 (lv + 6) f fd ["_law_pot_here", "_law_fill", "_law_lead", "_law_turn"] (spNames K C) := by
  have bD : Binds K fdD ["_law_pot_here", "_law_many"] [] := FD.bindsN fun _ _ _ _ _ _ us hl => match us, hl with | [_, _], _ => rfl
  have bA : Binds K fdA ["_law_lead", "_law_turn", "_law_row"] [] := FA.bindsN fun _ _ _ _ _ _ us hl => match us, hl with | [_, _, _], _ => rfl
  have bN : Binds K fdN ["_law_lead", "_law_turn", "_law_many"] [] := FN.bindsN fun _ _ _ _ _ _ us hl => match us, hl with | [_, _, _], _ => rfl
  have bI : Binds K fdI ["_law_fill", "_law_normal_here"] [] := FI.bindsN fun _ _ _ _ _ _ us hl => match us, hl with | [_, _], _ => rfl
  refine F.okG scNames (fun vs H Q E h => ?_) (fun cdv A outer s H vs Q E hgu hr h => ?_)
  · obtain ⟨pp, x, a, b, L, U, L', U', rfl, _⟩ := h
    rfl
  · obtain ⟨pp, x, a, b, L, U, L', U', rfl, ne, na, nb, nm, oL, oU, hne, sq, q⟩ := h
    have r1 := hr.mono (show 1 ≤ lv + 5 by omega)
    have r2 := hr.mono (show 2 ≤ lv + 5 by omega)
    have r3 := hr.mono (show 3 ≤ lv + 5 by omega)
    have r5 := hr.mono (show 5 ≤ lv + 5 by omega)
    refine ⟨_, PSs.nox (pss_cons (ps_set (i := 4) scNames.nd rfl (Or.inl rfl) (pe_op op_cat (pe_lc (own := [("_law_row", 5)]) (g := gName 5) (tt := tYes) (te := tOp (rI0 fun i j => .int (i + j)) (tVar 5) (tC (.int 1))) rfl scNames.nd (pi_range1 rfl gRange (pa_cons pe_int pa_nil)) (blkOk_by (N := nmsN) (sc := defScope sNames) (by decide +kernel)) (fun _ _ _ _ _ => by exact pg_name (i := 5) scNames.nd rfl (Or.inl rfl)) (fun _ _ _ _ _ => by exact pts_nil) (fun _ _ _ _ _ => by exact pe_op op_add (pv 5) pe_int))
          (pe_lst (pa_cons (pe_op op_pow pe_int pe_int) (pa_cons (pe_op op_sub (pe_op op_pow pe_int pe_int) pe_int) (pa_cons (pe_op op_add pe_int (pe_call GD r1 rfl gD FD.kp bD .nil pass0 (pa_cons (pv 0) (pa_cons (pe_op op_pow pe_int pe_int) pa_nil)))) pa_nil))))))
      (pss_cons (ps_for PassesOwn.never rfl (pi_list (pv 4)) (pg_name (i := 5) scNames.nd rfl (Or.inl rfl))
        (pss_one (ps_if (pt_cmpR op_ne (pe_meth (pv 1) T.cl mK GK r2 bK .nil pass0 (pa_cons (pv 5) pa_nil)) (pe_call GA r1 rfl gA FA.kp bA .nil pass0 (pa_cons (pv 2) (pa_cons (pv 3) (pa_cons (pv 5) pa_nil)))) (nomark _)) (pss_one (ps_ret pe_bl)) pss_nil)))
      (pss_cons (ps_for PassesOwn.never rfl (pi_list (pe_lst (pa_cons pe_int (pa_cons pe_int (pa_cons pe_int (pa_cons (pe_call GD r1 rfl gD FD.kp bD .nil pass0 (pa_cons (pv 0) (pa_cons pe_int pa_nil))) pa_nil)))))) (pg_name (i := 6) scNames.nd rfl (Or.inl rfl))
        (pss_one (ps_if (pt_cmpR op_ne (pe_callB (call_reprD hgu hr.units sm) rfl gRepr (by decide +kernel) (pa_cons (pe_meth (pv 1) T.cl mF GF r3 bF .nil pass0 (pa_cons (pv 6) pa_nil)) pa_nil))
          (pe_callB (call_reprD hgu hr.units sm) rfl gRepr (by decide +kernel) (pa_cons (pe_lc (own := [("_law_row", 5)]) (g := gName 5) (tt := tYes) (te := tCall (spAt K) [] E0 (tCons (tVar 2) (tCons (tVar 3) (tCons (tOp (rI0 fun i j => .int (i + j)) (tVar 5) (tC (.int 1))) tNil)))) rfl scNames.nd (pi_range1 rfl gRange (pa_cons (pv 6) pa_nil)) (blkOk_by (N := nmsN) (sc := defScope sNames) (by decide +kernel)) (fun _ _ _ _ _ => by exact pg_name (i := 5) scNames.nd rfl (Or.inl rfl)) (fun _ _ _ _ _ => by exact pts_nil) (fun _ _ _ _ _ => by exact pe_call GA r1 rfl gA FA.kp bA .nil pass0 (pa_cons (pv 2) (pa_cons (pv 3) (pa_cons (pe_op op_add (pv 5) pe_int) pa_nil))))) pa_nil)) (nomark _)) (pss_one (ps_ret pe_bl)) pss_nil)))
      (pss_cons (ps_set (i := 7) scNames.nd rfl (Or.inl rfl) (pe_meth (pv 1) T.cl mF GF r3 bF .nil pass0 (pa_cons pe_int pa_nil)))
      (pss_cons (ps_expr (pe_bm PySem.F.plainAttrs_list PySem.F.slot_list_append PySem.F.type_list_append mt_append (pv 7) (pa_cons pe_str pa_nil)))
      (pss_cons (ps_for PassesOwn.never rfl (pi_list (pe_lst (pa_cons pe_int (pa_cons pe_int (pa_cons (pe_callB call_len rfl gLen boot_len (pa_cons (pv 2) pa_nil)) (pa_cons (pe_op op_add (pe_callB call_len rfl gLen boot_len (pa_cons (pv 2) pa_nil)) pe_int) (pa_cons (pe_call GD r1 rfl gD FD.kp bD .nil pass0 (pa_cons (pv 0) (pa_cons pe_int pa_nil))) (pa_cons (pe_op op_pow pe_int pe_int) (pa_cons (pe_call GD r1 rfl gD FD.kp bD .nil pass0 (pa_cons (pv 0) (pa_cons (pe_op op_pow pe_int pe_int) pa_nil))) pa_nil))))))))) (pg_name (i := 6) scNames.nd rfl (Or.inl rfl))
        (pss_one (ps_if (pt_not (pt_val (pe_callG GI hgu hr rfl gI FI.kp bI pass0 (pa_cons (pe_meth (pv 1) T.cl mB GB r5 bB .nil pass0 (pa_cons (pv 6) pa_nil)) (pa_cons (pe_call GN r2 rfl gN FN.kp bN .nil pass0 (pa_cons (pv 2) (pa_cons (pv 3) (pa_cons (pv 6) pa_nil)))) pa_nil))))) (pss_one (ps_ret pe_bl)) pss_nil)))
      (pss_one (ps_ret (pe_cmpR op_eq (pe_callB (call_reprD hgu hr.units sm) rfl gRepr (by decide +kernel) (pa_cons (pe_meth (pv 1) T.cl mF GF r3 bF .nil pass0 (pa_cons pe_int pa_nil)) pa_nil))
        (pe_callB (call_reprD hgu hr.units sm) rfl gRepr (by decide +kernel) (pa_cons (pe_lc (own := [("_law_row", 5)]) (g := gName 5) (tt := tYes) (te := tCall (spAt K) [] E0 (tCons (tVar 2) (tCons (tVar 3) (tCons (tOp (rI0 fun i j => .int (i + j)) (tVar 5) (tC (.int 1))) tNil)))) rfl scNames.nd (pi_range1 rfl gRange (pa_cons pe_int pa_nil)) (blkOk_by (N := nmsN) (sc := defScope sNames) (by decide +kernel)) (fun _ _ _ _ _ => by exact pg_name (i := 5) scNames.nd rfl (Or.inl rfl)) (fun _ _ _ _ _ => by exact pts_nil) (fun _ _ _ _ _ => by exact pe_call GA r1 rfl gA FA.kp bA .nil pass0 (pa_cons (pv 2) (pa_cons (pv 3) (pa_cons (pe_op op_add (pv 5) pe_int) pa_nil))))) pa_nil)) (nomark _)))))))))), ?_⟩
    walk_at "rd"
    refine ⟨12, rfl, by decide, by decide, ?_⟩
    refine lcGen (n := 12) (fun k acc H2 => Same H H2 ∧ ∀ v ∈ acc, RowV v) rfl (by decide) ⟨Same.refl _, fun v h => absurd h List.not_mem_nil⟩ (fun k acc H2 D o nd j => ⟨fun b u e => by rw [upd_ne (ne_of_none e nd)]; exact j.1 b u e, j.2⟩) (fun k acc H2 Q' hk al j q' => ?_) (fun D1 acc H1 nD1 al j hD1 => ?_)
    · walk_at "rd"
      refine q' _ _ (fun b o _ e => e) ⟨j.1, fun v hv => ?_⟩
      rcases List.mem_append.mp hv with h | h
      · exact j.2 v h
      · rw [List.mem_singleton.mp h]
        exact ⟨k, by rw [Int.zero_add], by omega⟩
    obtain ⟨s1, hrows⟩ := j
    have ne1 := ne.same s1
    walk_at "rd"
    refine ⟨pp, _, rfl, ne1.pot, by decide +kernel, by decide +kernel, fun d H2 d0 dl p2 b2 => ?_⟩
    obtain ⟨k, rfl⟩ := Int.eq_ofNat_of_zero_le d0
    have nD1p : D1 ≠ pp := pot_new ne.pot nD1
    have ne2 := ne1.but na nb p2 b2
    walk_at "rd"
    refine ⟨Rd.small (by show 3 ≤ 100000; decide), fun D2 nD2 => ?_⟩
    have s2 := same_new (o := HO.lst [V.int (10 ^ Int.toNat 60), V.int (10 ^ Int.toNat 60 - 1), V.int (1 + (k : Int))]) nD2
    have o2 := upd_same (H := H2) (a := D2) (o := HO.lst [V.int (10 ^ Int.toNat 60), V.int (10 ^ Int.toNat 60 - 1), V.int (1 + (k : Int))])
    generalize upd H2 D2 (HO.lst [V.int (10 ^ Int.toNat 60), V.int (10 ^ Int.toNat 60 - 1), V.int (1 + (k : Int))]) = H3 at s2 o2 ⊢
    refine ⟨D1, D2, _, _, rfl, rfl, s2 _ _ (b2 _ _ nD1p hD1), o2, Rd.small (by rw [al]; show 12 + 3 ≤ 100000; decide), fun D3 nD3 => ?_⟩
    have rows : ∀ v ∈ acc ++ [V.int (10 ^ Int.toNat 60), V.int (10 ^ Int.toNat 60 - 1), V.int (1 + (k : Int))], RowV v := fun v hv => by
      rcases List.mem_append.mp hv with h | h
      · exact hrows v h
      · rcases List.mem_cons.mp h with rfl | h
        · exact ⟨10 ^ 60 - 1, by decide +kernel, by decide +kernel⟩
        · rcases List.mem_cons.mp h with rfl | h
          · exact ⟨10 ^ 60 - 2, by decide +kernel, by decide +kernel⟩
          · rw [List.mem_singleton.mp h]
            refine ⟨k, by rw [Int.add_comm], ?_⟩
            have z : (k : Int) < 10 ^ Int.toNat 60 := dl
            have y : (10 : Int) ^ Int.toNat 60 = 10 ^ 60 := rfl
            omega
    have s3 := same_new (o := HO.lst (acc ++ [V.int (10 ^ Int.toNat 60), V.int (10 ^ Int.toNat 60 - 1), V.int (1 + (k : Int))])) nD3
    have o3 := upd_same (H := H3) (a := D3) (o := HO.lst (acc ++ [V.int (10 ^ Int.toNat 60), V.int (10 ^ Int.toNat 60 - 1), V.int (1 + (k : Int))]))
    generalize upd H3 D3 (HO.lst (acc ++ [V.int (10 ^ Int.toNat 60), V.int (10 ^ Int.toNat 60 - 1), V.int (1 + (k : Int))])) = H4 at s3 o3 ⊢
    have ne4 := (ne2.same s2).same s3
    have b04 : But pp H H4 := (butS' s1).trans (b2.trans (butS' (s2.trans s3)))
    generalize acc ++ [V.int (10 ^ Int.toNat 60), V.int (10 ^ Int.toNat 60 - 1), V.int (1 + (k : Int))] = xs at rows o3
    walk_at "rd"
    refine ⟨D3, rfl, ⟨_, SqL.of o3⟩, ?_⟩
    refine for_it (walk_list (xs := xs)) (fun i σ H' => (∃ c5 c6 c7, σ = [some (.ref pp), some (.ref x), some (.ref a), some (.ref b), some (.ref D3), c5, c6, c7]) ∧ Same H4 H') ⟨⟨_, _, _, rfl⟩, Same.refl _⟩ (fun i σ H' _ hp => SqL.of (hp.2 _ _ o3)) (fun i v σ H5 H6 hi hp hy => ?_) (fun σ H5 hp => ?_)
    · obtain ⟨⟨c5, c6, c7, rfl⟩, s5⟩ := hp
      obtain ⟨rfl, hx⟩ := hy
      obtain ⟨kk, rfl, hk⟩ := rows v (List.mem_of_getElem? hx)
      have n5 := ne4.same s5
      obtain ⟨dx, p, r, ha, _, _⟩ := id n5.fill
      walk_at "rd"
      refine ⟨x, dx, _, rfl, ha, rfl, ?_⟩
      walk_at "rd"
      refine ⟨x, L', U', kk, rfl, n5.fill, nm.nf.ne, hk, fun y hy => ?_⟩
      walk_at "rd"
      refine ⟨a, b, L, U, kk, rfl, SqL.of n5.lead, SqL.of n5.turn, hne, fun z hz => ?_⟩
      walk_at "rd"
      obtain rfl : y = z := Option.some.inj (hy.symm.trans ((sq kk).trans hz))
      refine Rd.ifB (fun w => ?_) (fun _ => ?_)
      · simp at w
      walk_at "rd"
      exact ⟨⟨_, _, _, rfl⟩, s5⟩
    obtain ⟨⟨c5, c6, c7, rfl⟩, s5⟩ := hp
    have n5 := ne4.same s5
    have b05 : But pp H H5 := b04.trans (butS' s5)
    dsimp only
    walk_at "rd"
    refine ⟨pp, _, rfl, n5.pot, by decide, by decide, fun d H6 d0 dl p6 b6 => ?_⟩
    obtain ⟨k2, rfl⟩ := Int.eq_ofNat_of_zero_le d0
    have n6 := n5.but na nb p6 b6
    walk_at "rd"
    refine ⟨Rd.small (by show 4 ≤ 100000; decide), fun D5 nD5 => ?_⟩
    have s7 := same_new (o := HO.lst [V.int 0, V.int 1, V.int 12, V.int (k2 : Int)]) nD5
    have o7 := upd_same (H := H6) (a := D5) (o := HO.lst [V.int 0, V.int 1, V.int 12, V.int (k2 : Int)])
    generalize upd H6 D5 (HO.lst [V.int 0, V.int 1, V.int 12, V.int (k2 : Int)]) = H7 at s7 o7 ⊢
    have n7 := n6.same s7
    have b07 : But pp H H7 := (b05.trans b6).trans (butS' s7)
    refine ⟨D5, rfl, ⟨_, SqL.of o7⟩, ?_⟩
    have fews : ∀ v ∈ [V.int 0, V.int 1, V.int 12, V.int (k2 : Int)], ∃ n : Nat, v = .int n ∧ n ≤ 60 := fun v hv => by
      simp only [List.mem_cons, List.not_mem_nil, or_false] at hv
      rcases hv with rfl | rfl | rfl | rfl
      · exact ⟨0, rfl, by decide⟩
      · exact ⟨1, rfl, by decide⟩
      · exact ⟨12, rfl, by decide⟩
      · exact ⟨k2, rfl, by omega⟩
    refine for_it (walk_list (xs := [V.int 0, V.int 1, V.int 12, V.int (k2 : Int)])) (fun i σ H' => (∃ c5 c6 c7, σ = [some (.ref pp), some (.ref x), some (.ref a), some (.ref b), some (.ref D3), c5, c6, c7]) ∧ Same H7 H') ⟨⟨_, _, _, rfl⟩, Same.refl _⟩ (fun i σ H' _ hp => SqL.of (hp.2 _ _ o7)) (fun i v σ H8 H9 hi hp hy => ?_) (fun σ H8 hp => ?_)
    · obtain ⟨⟨c5, c6, c7, rfl⟩, s8⟩ := hp
      obtain ⟨rfl, hx⟩ := hy
      obtain ⟨n, rfl, hn⟩ := fews v (List.mem_of_getElem? hx)
      have n8 := n7.same s8
      obtain ⟨dx, p, r, ha, _, _⟩ := id n8.fill
      walk_at "rd"
      refine ⟨x, dx, _, rfl, ha, rfl, ?_⟩
      walk_at "rd"
      refine ⟨x, L', U', n, rfl, n8.fill, nm.nf.ne, by omega, fun D6 H10 l nD6 s10 hD6 hl hs => ?_⟩
      walk_at "rd"
      have ol := names_ok nm.oL nm.oT nm.nf.ne (by omega) (fun k hk => hs k (by omega))
      refine rRepr_lst ol (SqL.of hD6) ?_
      walk_at "rd"
      refine ⟨(n : Int), rfl, by omega, by omega, ?_⟩
      rw [Int.toNat_natCast]
      have n10 := n8.same s10
      refine lcAt rfl hn n10.lead n10.turn hne fun D7 H11 l2 nD7 s11 hD7 hl2 hs2 => ?_
      walk_at "rd"
      obtain rfl : l2 = l := same_names (by omega) (fun k hk => hs2 k (by omega)) (fun k hk => hs k (by omega)) sq
      refine rRepr_lst ol (SqL.of hD7) ?_
      walk_at "rd"
      refine Rd.ifB (fun w => ?_) (fun _ => ?_)
      · simp at w
      walk_at "rd"
      exact ⟨⟨_, _, _, rfl⟩, s8.trans (s10.trans s11)⟩
    obtain ⟨⟨c5, c6, c7, rfl⟩, s8⟩ := hp
    have n8 := n7.same s8
    have b08 : But pp H H8 := b07.trans (butS' s8)
    dsimp only
    obtain ⟨dx, p, r, ha, _, _⟩ := id n8.fill
    walk_at "rd"
    refine ⟨x, dx, _, rfl, ha, rfl, ?_⟩
    walk_at "rd"
    refine ⟨x, L', U', 5, rfl, n8.fill, nm.nf.ne, by decide, fun D6 H10 l nD6 s10 hD6 hl hs => ?_⟩
    have n10 := n8.same s10
    walk_at "rd"
    refine ⟨.inl ⟨rfl, _, SqL.of hD6⟩, ?_⟩
    walk_at "rd"
    refine ⟨D6, _, _, rfl, rfl, hD6, Nat.lt_of_lt_of_le (show (l.map V.str).length < 100000 by rw [List.length_map]; omega) (by decide), ?_⟩
    have s11 : Same H8 (upd H10 D6 (.lst (l.map V.str ++ [V.str "odd"]))) := fun b o e => by
      rw [upd_ne (ne_of_none e nD6)]
      exact s10 b o e
    generalize upd H10 D6 (.lst (l.map V.str ++ [V.str "odd"])) = H11 at s11 ⊢
    have n11 := n8.same s11
    have b11 : But pp H H11 := b08.trans (butS' s11)
    walk_at "rd"
    refine ⟨_, _, rfl, .inl ⟨_, SqL.of n11.lead, rfl⟩, ?_⟩
    walk_at "rd"
    refine ⟨_, _, rfl, .inl ⟨_, SqL.of n11.lead, rfl⟩, ?_⟩
    walk_at "rd"
    refine ⟨pp, _, rfl, n11.pot, by decide, by decide, fun d3 H12 d30 d3l p12 b12 => ?_⟩
    obtain ⟨k3, rfl⟩ := Int.eq_ofNat_of_zero_le d30
    have n12 := n11.but na nb p12 b12
    walk_at "rd"
    refine ⟨pp, _, rfl, n12.pot, by decide +kernel, by decide +kernel, fun d4 H13 d40 d4l p13 b13 => ?_⟩
    obtain ⟨k4, rfl⟩ := Int.eq_ofNat_of_zero_le d40
    have n13 := n12.but na nb p13 b13
    walk_at "rd"
    refine ⟨Rd.small (by show 7 ≤ 100000; decide), fun D8 nD8 => ?_⟩
    have s14 := same_new (o := HO.lst [V.int 0, V.int 1, V.int ((L.map V.str).length : Nat), V.int ((L.map V.str).length + 1), V.int (k3 : Int), V.int (10 ^ Int.toNat 60), V.int (k4 : Int)]) nD8
    have o14 := upd_same (H := H13) (a := D8) (o := HO.lst [V.int 0, V.int 1, V.int ((L.map V.str).length : Nat), V.int ((L.map V.str).length + 1), V.int (k3 : Int), V.int (10 ^ Int.toNat 60), V.int (k4 : Int)])
    generalize upd H13 D8 (HO.lst [V.int 0, V.int 1, V.int ((L.map V.str).length : Nat), V.int ((L.map V.str).length + 1), V.int (k3 : Int), V.int (10 ^ Int.toNat 60), V.int (k4 : Int)]) = H14 at s14 o14 ⊢
    have n14 := n13.same s14
    have b14 : But pp H H14 := ((b11.trans b12).trans b13).trans (butS' s14)
    have manys : ∀ v ∈ [V.int 0, V.int 1, V.int ((L.map V.str).length : Nat), V.int ((L.map V.str).length + 1), V.int (k3 : Int), V.int (10 ^ Int.toNat 60), V.int (k4 : Int)], ManyV v := fun v hv => by
      have zL := oL.few
      simp only [List.mem_cons, List.not_mem_nil, or_false] at hv
      rcases hv with rfl | rfl | rfl | rfl | rfl | rfl | rfl
      · exact ⟨0, rfl, by decide +kernel⟩
      · exact ⟨1, rfl, by decide +kernel⟩
      · exact ⟨_, rfl, by rw [List.length_map]; omega⟩
      · exact ⟨(L.map V.str).length + 1, rfl, by rw [List.length_map]; omega⟩
      · exact ⟨k3, rfl, by omega⟩
      · exact ⟨10 ^ 60, by decide +kernel, by decide +kernel⟩
      · refine ⟨k4, rfl, ?_⟩
        have z : (k4 : Int) < 10 ^ Int.toNat 60 := d4l
        have y : (10 : Int) ^ Int.toNat 60 = 10 ^ 60 := rfl
        omega
    generalize [V.int 0, V.int 1, V.int ((L.map V.str).length : Nat), V.int ((L.map V.str).length + 1), V.int (k3 : Int), V.int (10 ^ Int.toNat 60), V.int (k4 : Int)] = ms at manys o14
    refine ⟨D8, rfl, ⟨_, SqL.of o14⟩, ?_⟩
    refine for_it (walk_list (xs := ms)) (fun i σ H' => (∃ c5 c6 c7, σ = [some (.ref pp), some (.ref x), some (.ref a), some (.ref b), some (.ref D3), c5, c6, c7]) ∧ Same H14 H') ⟨⟨_, _, _, rfl⟩, Same.refl _⟩ (fun i σ H' _ hp => SqL.of (hp.2 _ _ o14)) (fun i v σ H15 H16 hi hp hy => ?_) (fun σ H15 hp => ?_)
    · obtain ⟨⟨c5, c6, c7, rfl⟩, s15⟩ := hp
      obtain ⟨rfl, hx⟩ := hy
      obtain ⟨m, rfl, hm⟩ := manys v (List.mem_of_getElem? hx)
      have n15 := n14.same s15
      obtain ⟨dx, p, r, ha, _, _⟩ := id n15.fill
      walk_at "rd"
      refine ⟨x, dx, _, rfl, ha, rfl, ?_⟩
      walk_at "rd"
      refine ⟨x, L', U', m, rfl, n15.fill, nm, hm, fun x2 H17 L2 U2 nx2 s17 hf2 nm2 sq2 => ?_⟩
      have n17 := n15.same s17
      walk_at "rd"
      refine ⟨a, b, L, U, m, rfl, SqL.of n17.lead, n17.turn, oL, oU, hne, fun r2 p2 q2 H18 L3 U3 nr2 s18 hr2 hp2 hq2 nm3 sq3 => ?_⟩
      obtain ⟨rfl, rfl⟩ := M23.nf_one nm2.nf nm3.nf fun i => (sq2 i).trans ((sq _).trans (sq3 i).symm)
      walk_at "rd"
      refine ⟨x2, r2, p2, q2, L2, U2, rfl, hf2.same s18, nm2, SqT.of hr2, hp2, hq2, fun H19 s19 => ?_⟩
      walk_at "rd"
      refine iteF ?_
      walk_at "rd"
      exact ⟨⟨_, _, _, rfl⟩, s15.trans (s17.trans (s18.trans s19))⟩
    obtain ⟨⟨c5, c6, c7, rfl⟩, s15⟩ := hp
    have n15 := n14.same s15
    have b15 : But pp H H15 := b14.trans (butS' s15)
    dsimp only
    obtain ⟨dx, p, r, ha, _, _⟩ := id n15.fill
    walk_at "rd"
    refine ⟨x, dx, _, rfl, ha, rfl, ?_⟩
    walk_at "rd"
    refine ⟨x, L', U', 5, rfl, n15.fill, nm.nf.ne, by decide, fun D9 H16 l nD9 s16 hD9 hl hs => ?_⟩
    walk_at "rd"
    have ol := names_ok nm.oL nm.oT nm.nf.ne (by omega) (fun k hk => hs k (by omega))
    refine rRepr_lst ol (SqL.of hD9) ?_
    have n16 := n15.same s16
    walk_at "rd"
    refine ⟨5, rfl, by decide, by decide, ?_⟩
    refine lcAt (n := 5) rfl (by decide) n16.lead n16.turn hne fun D10 H17 l2 nD10 s17 hD10 hl2 hs2 => ?_
    walk_at "rd"
    obtain rfl : l2 = l := same_names (by omega) (fun k hk => hs2 k (by omega)) (fun k hk => hs k (by omega)) sq
    refine rRepr_lst ol (SqL.of hD10) ?_
    walk_at "rd"
    rw [decide_eq_true rfl]
    exact q H17 (n16.same s17).pot (b15.trans (butS' (s16.trans s17)))
end
end K23

namespace K23
open PySem PySem.Spec PyProof.Rows L2
local macro_rules | `(tactic| walk_at "rd1") => `(tactic| first
  | (with_reducible refine Rd.seq ?_) | (with_reducible refine Rd.asg ?_) | (with_reducible refine Rd.ret ?_) | (with_reducible refine Rd.nxt ?_) | (with_reducible refine Rd.ifS ?_)
  | (with_reducible refine Rd.op ?_) | (with_reducible refine Rd.un ?_) | (with_reducible refine Rd.cb ?_) | (with_reducible refine Rd.cons ?_) | (with_reducible refine Rd.nil ?_) | (with_reducible refine Rd.ifx ?_)
  | (with_reducible refine Rd.test ?_) | (with_reducible refine Rd.testB ?_) | (with_reducible refine Rd.notT ?_) | (with_reducible refine Rd.isB ?_) | (with_reducible refine Rd.lst ?_) | (with_reducible refine Rd.tup ?_)
  | (with_reducible refine Rd.andV ?_) | (with_reducible refine Rd.orV ?_) | (with_reducible refine Rd.notV ?_) | (with_reducible refine Rd.andT ?_) | (with_reducible refine Rd.orT ?_) | (with_reducible refine Rd.chain ?_)
  | (with_reducible refine Rd.m0 ?_) | (with_reducible refine Rd.m1 ?_) | (with_reducible refine Rd.bm0 ?_) | (with_reducible refine Rd.bm ?_) | (with_reducible refine Rd.sl ?_) | (with_reducible refine Rd.part ?_) | (with_reducible refine Rd.part0 ?_) | (with_reducible refine Rd.isI ?_)
  | (with_reducible refine Rd.fmt ?_) | (with_reducible refine Rd.fmtRD ?_) | (with_reducible refine Rd.meth ?_) | (with_reducible refine Rd.make ?_) | (with_reducible refine Rd.prop ?_) | (with_reducible refine Rd.js ?_) | (with_reducible refine Rd.js0 ?_) | (with_reducible refine Rd.par ?_) | (with_reducible refine Rd.star ?_) | (with_reducible refine lcR1 ?_) | (with_reducible refine lcR2 ?_) | (with_reducible refine Rd.fld ?_) | (with_reducible refine Rd.sfld ?_) | (with_reducible refine Rd.expr ?_) | (with_reducible refine L2.isNR ?_) | (with_reducible refine L2.methI ?_) | (with_reducible refine Rd.forZ ?_)
  | (with_reducible refine Rd.forEA ?_) | (with_reducible refine Rd.forR1 ?_) | (with_reducible refine Rd.forR2 ?_) | (with_reducible refine Rd.forL ?_) | (with_reducible refine Rd.forT ?_)
  | (with_reducible refine Rd.call ?_) | (with_reducible refine Rd.asgG ?_) | (with_reducible refine Rd.gNm ?_) | (with_reducible refine Rd.gSb ?_) | (with_reducible refine Rd.gC ?_) | (with_reducible refine Rd.gN ?_)
  | ((with_reducible refine' Rd.var ?hv ?_); (case hv => exact rfl)) | (with_reducible refine Rd.c ?_) | (with_reducible refine Rd.i0 ?_) | (with_reducible refine Rd.neg ?_)
  | ((with_reducible refine' Rd.iC ?hc ?_); (case hc => first | (show (0 : Int) < _; decide) | exact ⟨by decide, by decide⟩ | exact ⟨by decide, by decide, by decide⟩ | exact .inl ⟨by decide, by decide⟩ | exact .inr ⟨by decide, by decide⟩ | exact .inl ⟨by omega, by omega⟩ | (show (0 : Int) < _; omega) | exact ⟨by omega, by omega⟩))
  | ((with_reducible refine' Rd.eqS ?hc ?_); (case hc => rfl)) | ((with_reducible refine' Rd.neS ?hc ?_); (case hc => rfl)))
local macro_rules | `(tactic| walk_at "rd") => `(tactic| repeat walk_at "rd1")
abbrev sDrawn : Stmt := topA iDrawn
def spDrawn (K : PySem.W.Frag) : Sp := fun vs H Q _ => ∃ (pp sm : Addr) (xs : List Str), vs = [.ref pp, .ref sm] ∧ PotAt H pp ∧ H sm = some (.lst (xs.map V.str)) ∧ sm ≠ pp ∧ xs ≠ [] ∧ xs.length ≤ 100 ∧
  ∀ (r a b : Addr) (H' : Hp) (L T : List Str), PotAt H' pp → But pp H H' → a ≠ pp → b ≠ pp → H' r = some (.tup [.ref a, .ref b]) → H' a = some (.lst (L.map V.str)) → H' b = some (.lst (T.map V.str)) → L.length ≤ 5 → T.length ≤ 4 → 1 ≤ T.length → (∀ x ∈ L, x ∈ xs) → (∀ x ∈ T, x ∈ xs) → Q (.ref r) H'
abbrev tePick (K : PySem.W.Frag) : TE := tCall (spPick K) [] E0 (tCons (tVar 0) (tCons (tVar 1) tNil))
theorem lcPick {K : PySem.W.Frag} {pp sm : Addr} {xs : List Str} {n : Nat} {ii : List Nat} {c2 c3 : Option V} {H1 : Hp} {Q : VK} (hi : ii = [3]) (hn : n ≤ 60) (hp : PotAt H1 pp) (hs : H1 sm = some (.lst (xs.map V.str))) (ns : sm ≠ pp) (hne : xs ≠ []) (hx : xs.length ≤ 100)
    (q : ∀ (D : Addr) (H2 : Hp) (l : List Str), H1 D = none → PotAt H2 pp → But pp H1 H2 → H2 D = some (.lst (l.map V.str)) → l.length = n → (∀ x ∈ l, x ∈ xs) → Q (.ref D) H2) :
    LcJ (Itr 0 n) 3 ii (tePick K) [some (.ref pp), some (.ref sm), c2, c3] H1 Q := by
  refine lcGen (fun k acc H2 => PotAt H2 pp ∧ But pp H1 H2 ∧ ∃ l : List Str, acc = l.map V.str ∧ l.length = k ∧ ∀ x ∈ l, x ∈ xs) hi (by omega) ⟨hp, But.refl, [], rfl, rfl, fun x h => absurd h List.not_mem_nil⟩ (fun k acc H2 D o nd j => ?_) (fun k acc H2 Q' hk al j q' => ?_) (fun D acc H2 nD al j hD => ?_)
  · have d := pot_new hp nd
    obtain ⟨⟨u, v, e, z⟩, bt, r⟩ := j
    exact ⟨⟨u, v, by rw [upd_ne d.symm]; exact e, z⟩, fun b o hb e2 => by rw [upd_ne (ne_of_none e2 nd)]; exact bt b o hb e2, r⟩
  · obtain ⟨p2, bt, l, rfl, ll, lm⟩ := j
    refine Rd.call ?_
    walk_at "rd"
    refine ⟨pp, sm, _, rfl, p2, bt _ _ ns hs, ns, fun z => hne (List.map_eq_nil_iff.mp z), by rw [List.length_map]; omega, fun v H3 hv p3 b3 => ?_⟩
    obtain ⟨y, hy, rfl⟩ := List.mem_map.mp hv
    refine q' _ _ (fun b o nb e => b3 b o (pot_new hp nb) e) ⟨p3, bt.trans b3, l ++ [y], by rw [List.map_append]; rfl, by rw [List.length_append, ll]; rfl, fun x hx => ?_⟩
    rcases List.mem_append.mp hx with h | h
    · exact lm x h
    · rw [List.mem_singleton.mp h]
      exact hy
  · obtain ⟨p2, bt, l, rfl, ll, lm⟩ := j
    rw [List.length_map] at al
    exact q D H2 l nD p2 bt hD al lm
section
variable {P : Program} {w : World} {K : PySem.W.Frag} {mg : Str → Option Value} {base : Heap} {C f fD fP : Addr} {fd fdD fdP : FuncData}
theorem scDrawn : FnScope ["_law_pot_here", "_law_some", "_law_lead", "_law_turn"] ["_law_pot_here", "_law_some"] (defScope sDrawn) := ⟨rfl, rfl, rfl, by decide +kernel, rfl, by decide +kernel, by decide +kernel⟩
theorem ok_drawn (F : FnP K "_law_drawn" sDrawn f fd) (FD : FnP K "_law_draw" sDraw fD fdD) (GD : FnOk P w K mg base CX0 1 fD fdD ["_law_pot_here", "_law_many"] spDraw) (gD : mg "_law_draw" = some (.ref fD))
    (FP : FnP K "_law_pick" sPick fP fdP) (GP : FnOk P w K mg base CX0 2 fP fdP ["_law_pot_here", "_law_some"] (spPick K)) (gP : mg "_law_pick" = some (.ref fP)) (gRange : mg "range" = none) : FnOk P w K mg base CX0 3 f fd ["_law_pot_here", "_law_some"] (spDrawn K) := by
  have bD : Binds K fdD ["_law_pot_here", "_law_many"] [] := FD.bindsN fun _ _ _ _ _ _ us hl => match us, hl with | [_, _], _ => rfl
  have bP : Binds K fdP ["_law_pot_here", "_law_some"] [] := FP.bindsN fun _ _ _ _ _ _ us hl => match us, hl with | [_, _], _ => rfl
  refine F.ok scDrawn (fun vs H Q E h => ?_) (fun cdv A outer s H vs Q E hr h => ?_)
  · obtain ⟨pp, sm, xs, rfl, _⟩ := h
    rfl
  · obtain ⟨pp, sm, xs, rfl, hp, hs, ns, hne, hx, q⟩ := h
    have r1 := hr.mono (show 1 ≤ 2 by decide)
    refine ⟨_, PSs.nox (pss_cons (ps_setLc (i := 2) (own := [("_law_turn", 3)]) (g := gName 3) (tt := tYes) (te := tePick K) rfl scDrawn.nd rfl rfl (sw_true rfl rfl rfl (by decide +kernel)) (pi_range1 rfl gRange (pa_cons (pe_call GD r1 rfl gD FD.kp bD .nil pass0 (pa_cons (pv 0) (pa_cons pe_int pa_nil))) pa_nil)) (blkOk_by (N := ["_law_pot_here", "_law_some", "_law_lead", "_law_turn"]) (sc := defScope sDrawn) (by decide +kernel)) (fun _ _ _ _ _ => by exact pg_name (i := 3) scDrawn.nd rfl (Or.inl rfl)) (fun _ _ _ _ _ => by exact pts_nil) (fun _ _ _ _ _ => by exact pe_call GP hr rfl gP FP.kp bP .nil pass0 (pa_cons (pv 0) (pa_cons (pv 1) pa_nil))))
      (pss_one (ps_ret (pe_tup (pa_cons (pv 2) (pa_cons (pe_lc (own := [("_law_turn", 3)]) (g := gName 3) (tt := tYes) (te := tePick K) rfl scDrawn.nd (pi_range1 rfl gRange (pa_cons (pe_op op_add pe_int (pe_call GD r1 rfl gD FD.kp bD .nil pass0 (pa_cons (pv 0) (pa_cons pe_int pa_nil)))) pa_nil)) (blkOk_by (N := ["_law_pot_here", "_law_some", "_law_lead", "_law_turn"]) (sc := defScope sDrawn) (by decide +kernel)) (fun _ _ _ _ _ => by exact pg_name (i := 3) scDrawn.nd rfl (Or.inl rfl)) (fun _ _ _ _ _ => by exact pts_nil) (fun _ _ _ _ _ => by exact pe_call GP hr rfl gP FP.kp bP .nil pass0 (pa_cons (pv 0) (pa_cons (pv 1) pa_nil)))) pa_nil)))))), ?_⟩
    walk_at "rd"
    refine ⟨pp, _, rfl, hp, by decide, by decide, fun d H1 d0 dl p1 b1 => ?_⟩
    obtain ⟨k1, rfl⟩ := Int.eq_ofNat_of_zero_le d0
    walk_at "rd"
    refine ⟨_, rfl, by omega, by omega, ?_⟩
    rw [Int.toNat_natCast]
    refine lcPick rfl (by omega) p1 (b1 _ _ ns hs) ns hne hx fun D1 H2 l nD1 p2 b2 hD1 hl ml => ?_
    have d1 := pot_new p1 nD1
    walk_at "rd"
    refine ⟨pp, _, rfl, p2, by decide, by decide, fun d H3 d0 dl2 p3 b3 => ?_⟩
    obtain ⟨k2, rfl⟩ := Int.eq_ofNat_of_zero_le d0
    walk_at "rd"
    refine ⟨_, rfl, by omega, by omega, ?_⟩
    have ek : ((1 : Int) + (k2 : Int)).toNat = k2 + 1 := by omega
    rw [ek]
    have b13 := (b1.trans b2).trans b3
    refine lcPick rfl (by omega) p3 (b13 _ _ ns hs) ns hne hx fun D2 H4 l2 nD2 p4 b4 hD2 hl2 ml2 => ?_
    have d2 := pot_new p3 nD2
    walk_at "rd"
    refine ⟨Rd.small (by show 2 ≤ 100000; decide), fun r nr => ?_⟩
    have s5 := same_new (o := HO.tup [V.ref D1, V.ref D2]) nr
    exact q r D1 D2 _ l l2 (pot_same p4 s5) ((b13.trans b4).trans (butS' s5)) d1 d2 upd_same (s5 _ _ ((b3.trans b4) _ _ d1 hD1)) (s5 _ _ hD2) (by omega) (by omega) (by omega) ml ml2
end
end K23

namespace K23
open PySem PySem.Spec PyProof.Rows L2
/-- what the making of an instance asks -/
def MakeG (C : Addr) (sp : Sp) (dvs : List V) (E : XK) (vs : List V) (H1 : Hp) (Q : VK) : Prop := ∀ x dx, H1 x = none → H1 dx = none → dx ≠ x → sp (.ref x :: (vs ++ dvs)) (upd (upd H1 dx (.own x)) x (.ins C dx [])) (fun v H2 => v = .non ∧ Q (.ref x) H2) E
theorem makeG {C : Addr} {sp : Sp} {dvs : List V} {E : XK} {σ : L2.St} {H : Hp} {t : TA} {Q : VK} (h : t σ H fun vs H1 => MakeG C sp dvs E vs H1 Q) : tMake C sp dvs E t σ H Q := h
theorem mkFillG {K : PySem.W.Frag} {C : Addr} {H : Hp} {Q : VK} {E : XK} {a b : Addr} {L T : List Str} (hL : Sq K H a L) (hT : Sq K H b T) (oL : Ok L) (oT : Ok T) (hne : T ≠ [])
    (q : ∀ (x : Addr) (H' : Hp) (L' T' : List Str), H x = none → Same H H' → FillAt K C H' x L' T' → Nm L' T' → (∀ i, M23.sq L' T' i = M23.sq L T i) → Q (.ref x) H') : MakeG C (spInit K C) [] E [.ref a, .ref b] H Q := mkFill hL hT oL oT hne q
local macro_rules | `(tactic| walk_at "rd1") => `(tactic| first
  | (with_reducible refine Rd.seq ?_) | (with_reducible refine Rd.asg ?_) | (with_reducible refine Rd.ret ?_) | (with_reducible refine Rd.nxt ?_) | (with_reducible refine Rd.ifS ?_)
  | (with_reducible refine Rd.op ?_) | (with_reducible refine Rd.un ?_) | (with_reducible refine Rd.cb ?_) | (with_reducible refine Rd.cons ?_) | (with_reducible refine Rd.nil ?_) | (with_reducible refine Rd.ifx ?_)
  | (with_reducible refine Rd.test ?_) | (with_reducible refine Rd.testB ?_) | (with_reducible refine Rd.notT ?_) | (with_reducible refine Rd.isB ?_) | (with_reducible refine Rd.lst ?_) | (with_reducible refine Rd.tup ?_)
  | (with_reducible refine Rd.andV ?_) | (with_reducible refine Rd.orV ?_) | (with_reducible refine Rd.notV ?_) | (with_reducible refine Rd.andT ?_) | (with_reducible refine Rd.orT ?_) | (with_reducible refine Rd.chain ?_)
  | (with_reducible refine Rd.m0 ?_) | (with_reducible refine Rd.m1 ?_) | (with_reducible refine Rd.bm0 ?_) | (with_reducible refine Rd.bm ?_) | (with_reducible refine Rd.sl ?_) | (with_reducible refine Rd.part ?_) | (with_reducible refine Rd.part0 ?_) | (with_reducible refine Rd.isI ?_)
  | (with_reducible refine Rd.fmt ?_) | (with_reducible refine Rd.fmtRD ?_) | (with_reducible refine Rd.meth ?_) | (with_reducible refine makeG ?_) | (with_reducible refine Rd.prop ?_) | (with_reducible refine Rd.js ?_) | (with_reducible refine Rd.js0 ?_) | (with_reducible refine Rd.par ?_) | (with_reducible refine Rd.star ?_) | (with_reducible refine lcR1 ?_) | (with_reducible refine lcR2 ?_) | (with_reducible refine Rd.fld ?_) | (with_reducible refine Rd.sfld ?_) | (with_reducible refine Rd.expr ?_) | (with_reducible refine L2.isNR ?_) | (with_reducible refine L2.methI ?_) | (with_reducible refine Rd.forZ ?_)
  | (with_reducible refine Rd.forEA ?_) | (with_reducible refine Rd.forR1 ?_) | (with_reducible refine Rd.forR2 ?_) | (with_reducible refine Rd.forL ?_) | (with_reducible refine Rd.forT ?_)
  | (with_reducible refine Rd.call ?_) | (with_reducible refine Rd.asgG ?_) | (with_reducible refine Rd.gNm ?_) | (with_reducible refine Rd.gSb ?_) | (with_reducible refine Rd.gC ?_) | (with_reducible refine Rd.gN ?_)
  | ((with_reducible refine' Rd.var ?hv ?_); (case hv => exact rfl)) | (with_reducible refine Rd.c ?_) | (with_reducible refine Rd.i0 ?_) | (with_reducible refine Rd.neg ?_)
  | ((with_reducible refine' Rd.iC ?hc ?_); (case hc => first | (show (0 : Int) < _; decide) | exact ⟨by decide, by decide⟩ | exact ⟨by decide, by decide, by decide⟩ | exact .inl ⟨by decide, by decide⟩ | exact .inr ⟨by decide, by decide⟩ | exact .inl ⟨by omega, by omega⟩ | (show (0 : Int) < _; omega) | exact ⟨by omega, by omega⟩))
  | ((with_reducible refine' Rd.eqS ?hc ?_); (case hc => rfl)) | ((with_reducible refine' Rd.neS ?hc ?_); (case hc => rfl)))
local macro_rules | `(tactic| walk_at "rd") => `(tactic| repeat walk_at "rd1")
abbrev sRight : Stmt := topA iRight
def spRight : Sp := fun vs H Q _ => ∃ pp : Addr, vs = [.ref pp] ∧ PotAt H pp ∧ ∀ H', PotAt H' pp → But pp H H' → Q (.bl true) H'
abbrev rtN : List Str := ["_law_pot_here", "_law_menu", "_law_some", "_law_lead", "_law_turn", "_law_normal_here", "_law_passed", "_law_fill", "_law_same", "_law_writings", "_law_ahead", "_law_again", "_law_other"]
/-! one step of making a list or a tuple, with what is said of it -/
theorem catStep {H : Hp} {Q : VK} {l b : Addr} {A B : List Str} (h1 : H l = some (.lst (A.map V.str))) (h2 : H b = some (.lst (B.map V.str))) (z : A.length + B.length ≤ 60) (q : ∀ (p : Addr) (H' : Hp), H p = none → Same H H' → H' p = some (.lst ((A ++ B).map V.str)) → Q (.ref p) H') : rCat (.ref l) (.ref b) H Q :=
  ⟨l, b, _, _, rfl, rfl, h1, h2, Rd.small (by rw [List.length_map, List.length_map]; omega), fun p np => q p _ np (same_new np) (by rw [upd_same, List.map_append])⟩
theorem repStep {H : Hp} {Q : VK} {l : Addr} {A : List Str} {k : Nat} (h1 : H l = some (.lst (A.map V.str))) (hk : k ≤ 60) (z : k * A.length ≤ 60) (q : ∀ (p : Addr) (H' : Hp), H p = none → Same H H' → H' p = some (.lst ((M23.rep k A).map V.str)) → Q (.ref p) H') : rRep (.ref l) (.int (k : Int)) H Q :=
  ⟨l, (k : Int), _, rfl, rfl, h1, by omega, by omega, Rd.small (by rw [Int.toNat_natCast, List.length_map, Nat.mul_comm]; omega), fun p np => q p _ np (same_new np) (by rw [upd_same, Int.toNat_natCast, rep_map])⟩
theorem toStep {K : PySem.W.Frag} {H : Hp} {Q : VK} {l : Addr} {A : List Str} (h1 : H l = some (.lst (A.map V.str))) (q : ∀ (p : Addr) (H' : Hp), H p = none → Same H H' → H' p = some (.lst ((A.take 1).map V.str)) → Q (.ref p) H') : rSlL K (.ref l) none (some 1) H Q :=
  Rd.slL (SqL.of h1) fun p H' np s e => q p H' np s (by rw [e]; exact congrArg (fun z => some (HO.lst z)) ((Rd.cut_to (k := 1)).trans (by rw [List.map_take])))
theorem fromStep {K : PySem.W.Frag} {H : Hp} {Q : VK} {l : Addr} {A : List Str} (h1 : H l = some (.lst (A.map V.str))) (z : 1 ≤ A.length) (q : ∀ (p : Addr) (H' : Hp), H p = none → Same H H' → H' p = some (.lst ((A.drop 1).map V.str)) → Q (.ref p) H') : rSlL K (.ref l) (some 1) none H Q :=
  Rd.slL (SqL.of h1) fun p H' np s e => q p H' np s (by rw [e]; exact congrArg (fun z => some (HO.lst z)) ((Rd.cut_from (k := 1) (by rw [List.length_map]; exact z)).trans (by rw [List.map_drop])))
theorem seqT_butL {K : PySem.W.Frag} {H H' : Hp} {c p : Addr} {ys xs : List V} (h : SqT K H p xs) (hc : H c = some (.lst ys)) (b : But c H H') : SqT K H' p xs := by
  have ne : ∀ {o : HO}, H p = some o → o ≠ .lst ys → p ≠ c := fun z n y => by
    rw [y, hc] at z
    cases z
    exact n rfl
  rcases h with (h | ⟨o, h⟩) | h
  · exact .inl (.inl (b _ _ (ne h fun z => by cases z) h))
  · exact .inl (.inr ⟨o, b _ _ (ne h fun z => by cases z) h⟩)
  · exact .inr h
theorem fill_butL {K : PySem.W.Frag} {C : Addr} {H H' : Hp} {c a : Addr} {ys : List V} {L T : List Str} (h : FillAt K C H a L T) (hc : H c = some (.lst ys)) (b : But c H H') : FillAt K C H' a L T := by
  obtain ⟨dx, p, q, a1, a2, a3⟩ := h
  refine ⟨dx, p, q, b _ _ (fun z => ?_) a1, seqT_butL a2 hc b, seqT_butL a3 hc b⟩
  rw [z, hc] at a1
  cases a1
/-- what stands while the law asks a fill -/
structure Rt (K : PySem.W.Frag) (C pp sm a b r p q x : Addr) (xs L T L' T' : List Str) (H : Hp) : Prop where
  pot : PotAt H pp
  sm_ : H sm = some (.lst (xs.map V.str))
  lead : H a = some (.lst (L.map V.str))
  turn : H b = some (.lst (T.map V.str))
  nrm : SqT K H r [.ref p, .ref q]
  np : SqT K H p (L'.map V.str)
  nq : SqT K H q (T'.map V.str)
  fill : FillAt K C H x L' T'
theorem Rt.same {K : PySem.W.Frag} {C pp sm a b r p q x : Addr} {xs L T L' T' : List Str} {H H' : Hp} (h : Rt K C pp sm a b r p q x xs L T L' T' H) (e : Same H H') : Rt K C pp sm a b r p q x xs L T L' T' H' :=
  ⟨pot_same h.pot e, e _ _ h.sm_, e _ _ h.lead, e _ _ h.turn, h.nrm.ext e, h.np.ext e, h.nq.ext e, h.fill.same e⟩
theorem Rt.but {K : PySem.W.Frag} {C pp sm a b r p q x : Addr} {xs L T L' T' : List Str} {H H' : Hp} (h : Rt K C pp sm a b r p q x xs L T L' T' H) (ns : sm ≠ pp) (na : a ≠ pp) (nb : b ≠ pp) (pt : PotAt H' pp) (e : But pp H H') : Rt K C pp sm a b r p q x xs L T L' T' H' := by
  obtain ⟨u, v, ep, _⟩ := id h.pot
  exact ⟨pt, e _ _ ns h.sm_, e _ _ na h.lead, e _ _ nb h.turn, seqT_butL h.nrm ep e, seqT_butL h.np ep e, seqT_butL h.nq ep e, fill_butL h.fill ep e⟩
/-- a list of one's own is changed -/
theorem Rt.upd {K : PySem.W.Frag} {C pp sm a b r p q x c : Addr} {xs L T L' T' : List Str} {ys : List V} {H H' : Hp} (h : Rt K C pp sm a b r p q x xs L T L' T' H) (hc : H c = some (.lst ys)) (np : pp ≠ c) (ns : sm ≠ c) (na : a ≠ c) (nb : b ≠ c) (e : But c H H') : Rt K C pp sm a b r p q x xs L T L' T' H' := by
  obtain ⟨u, v, ep, z⟩ := id h.pot
  exact ⟨⟨u, v, e _ _ np ep, z⟩, e _ _ ns h.sm_, e _ _ na h.lead, e _ _ nb h.turn, seqT_butL h.nrm hc e, seqT_butL h.np hc e, seqT_butL h.nq hc e, fill_butL h.fill hc e⟩
/-- another writing of the same fill -/
def WV (K : PySem.W.Frag) (L T : List Str) (H : Hp) (v : V) : Prop := ∃ (r a b : Addr) (l t : List Str), v = .ref r ∧ SqT K H r [.ref a, .ref b] ∧ Sq K H a l ∧ Sq K H b t ∧ Ok l ∧ Ok t ∧ t ≠ [] ∧ ∀ i, M23.sq l t i = M23.sq L T i
theorem WV.same {K : PySem.W.Frag} {L T : List Str} {H H' : Hp} {v : V} (h : WV K L T H v) (e : Same H H') : WV K L T H' v := by
  obtain ⟨r, a, b, l, t, h1, h2, h3, h4, h5⟩ := h
  exact ⟨r, a, b, l, t, h1, h2.ext e, h3.same e, h4.same e, h5⟩
def twoL (L T : List Str) : PyData := .list [.list (L.map .str), .list (T.map .str)]
def twoT (L T : List Str) : PyData := .tuple [.tuple (L.map .str), .tuple (T.map .str)]
theorem twoL_eqv (L T : List Str) : PyData.eqv (twoL L T) (twoL L T) = true := by
  simp only [twoL, PyData.eqv, PyData.eqvAll, eqva_strs, decide_true, Bool.and_self]
theorem twoT_eqv (L T L' T' : List Str) : PyData.eqv (twoT L T) (twoT L' T') = (decide (L = L') && decide (T = T')) := by
  simp only [twoT, PyData.eqv, PyData.eqvAll, eqva_strs, Bool.and_true]
theorem twoL_shaped {L T : List Str} (oL : Ok L) (oT : Ok T) : SeqAt.shaped (twoL L T) = true := by
  unfold SeqAt.shaped
  simp only [twoL, PyData.canLay0, PyData.canLayAll0, canlay_strs L oL.strs, canlay_strs T oT.strs, PyData.depth, PyData.depthAll, depth_strs]
  decide
theorem twoT_shaped {L T : List Str} (oL : Ok L) (oT : Ok T) : SeqAt.shaped (twoT L T) = true := by
  unfold SeqAt.shaped
  simp only [twoT, PyData.canLay0, PyData.canLayAll0, canlay_strs L oL.strs, canlay_strs T oT.strs, PyData.depth, PyData.depthAll, depth_strs]
  decide
theorem twoL_dp {K : PySem.W.Frag} {H : Hp} {r a b : Addr} {L T : List Str} (hr : SqL K H r [.ref a, .ref b]) (ha : SqL K H a (L.map V.str)) (hb : SqL K H b (T.map V.str)) : Dp K H (.ref r) (twoL L T) := .lst hr (.cons (.lst ha (dpa_strs L)) (.cons (.lst hb (dpa_strs T)) .nil))
theorem twoT_dp {K : PySem.W.Frag} {H : Hp} {r a b : Addr} {L T : List Str} (hr : SqT K H r [.ref a, .ref b]) (ha : SqT K H a (L.map V.str)) (hb : SqT K H b (T.map V.str)) : Dp K H (.ref r) (twoT L T) := .tup hr (.cons (.tup ha (dpa_strs L)) (.cons (.tup hb (dpa_strs T)) .nil))
/-- == of two fills -/
theorem eqFill {K : PySem.W.Frag} {mg : Str → Option Value} {C fE fS fR x y : Addr} {L T L' T' : List Str} {H : Hp} {Q : VK} {E : XK} {g : Bool → Bool} (T0 : Fc K mg C) (M : Ms K C fE fS fR) (hx : FillAt K C H x L T) (hy : FillAt K C H y L' T') (oL : Ok L) (oT : Ok T) (oL' : Ok L') (oT' : Ok T') (q : Q (.bl (g (decide (L = L') && decide (T = T')))) H) :
    rOwn K C (spEqF K C) E g (.ref x) (.ref y) H Q := by
  obtain ⟨dx, p1, q1, a1, _⟩ := id hx
  obtain ⟨dy, p2, q2, a2, _⟩ := id hy
  exact ⟨x, dx, _, .ref C, rfl, a1, .base (.ins a2 T0.cl T0.hcl T0.hgt T0.htk T0.hmo), M.first, x, .ref y, L, T, rfl, hx, oL, oT, .inl ⟨y, L', T', rfl, hy, oL', oT', _, rfl, q⟩⟩
section
variable {P : Program} {w : World} {K : PySem.W.Frag} {mg : Str → Option Value} {base : Heap} {C f fT fDn fD fN fI fNm fIn fE fSm fRm : Addr} {fd fdT fdDn fdD fdN fdI fdNm fdIn fdE : FuncData} {lv : Nat}
theorem scRight : FnScope rtN ["_law_pot_here"] (defScope sRight) := ⟨rfl, rfl, rfl, by decide +kernel, rfl, by decide +kernel, by decide +kernel⟩
theorem ok_right (F : FnP K "_law_right" sRight f fd) (T : Fc K mg C) (M : Ms K C fE fSm fRm) (FT : FnP K "_law_taken" sTaken fT fdT) (GT : FnOk P w K mg base CX0 2 fT fdT ["_law_pot_here", "_law_menu", "_law_many"] (spTaken K)) (gT : mg "_law_taken" = some (.ref fT))
    (FDn : FnP K "_law_drawn" sDrawn fDn fdDn) (GDn : FnOk P w K mg base CX0 3 fDn fdDn ["_law_pot_here", "_law_some"] (spDrawn K)) (gDn : mg "_law_drawn" = some (.ref fDn)) (FD : FnP K "_law_draw" sDraw fD fdD) (GD : FnOk P w K mg base CX0 1 fD fdD ["_law_pot_here", "_law_many"] spDraw) (gD : mg "_law_draw" = some (.ref fD))
    (FN : FnP K "_law_normal" sNormal fN fdN) (GN : FnOk P w K mg base CX0 1 fN fdN ["_law_lead", "_law_turn"] (spNormal K)) (gN : mg "_law_normal" = some (.ref fN)) (FI : FnP K "_law_is" sIs fI fdI) (GI : FnG P w K mg base CX0 (lv + 5) fI fdI ["_law_fill", "_law_normal_here"] (spIs K C)) (gI : mg "_law_is" = some (.ref fI))
    (FNm : FnP K "_law_names_right" sNames fNm fdNm) (GNm : FnG P w K mg base CX0 (lv + 6) fNm fdNm ["_law_pot_here", "_law_fill", "_law_lead", "_law_turn"] (spNames K C)) (gNm : mg "_law_names_right" = some (.ref fNm))
    (FIn : FunD K "__init__" "Fill.__init__" (defArgs sInit) (defBody sInit) (defScope sInit) [] [] fIn fdIn) (GIn : FnOk P w K mg base CX0 3 fIn fdIn ["self", "lead", "turn"] (spInit K C)) (MC : Mk K C fIn) (GE : FnOk P w K mg base CX0 1 fE fdE ["self", "other"] (spEqF K C)) (bE : Binds K fdE ["self", "other"] [])
    (gList : mg "list" = none) (gTup : mg "tuple" = none) : FnG P w K mg base CX0 (lv + 7) f fd ["_law_pot_here"] spRight := by
  have bT : Binds K fdT ["_law_pot_here", "_law_menu", "_law_many"] [] := FT.bindsN fun _ _ _ _ _ _ us hl => match us, hl with | [_, _, _], _ => rfl
  have bDn : Binds K fdDn ["_law_pot_here", "_law_some"] [] := FDn.bindsN fun _ _ _ _ _ _ us hl => match us, hl with | [_, _], _ => rfl
  have bD : Binds K fdD ["_law_pot_here", "_law_many"] [] := FD.bindsN fun _ _ _ _ _ _ us hl => match us, hl with | [_, _], _ => rfl
  have bN : Binds K fdN ["_law_lead", "_law_turn"] [] := FN.bindsN fun _ _ _ _ _ _ us hl => match us, hl with | [_, _], _ => rfl
  have bI : Binds K fdI ["_law_fill", "_law_normal_here"] [] := FI.bindsN fun _ _ _ _ _ _ us hl => match us, hl with | [_, _], _ => rfl
  have bNm : Binds K fdNm ["_law_pot_here", "_law_fill", "_law_lead", "_law_turn"] [] := FNm.bindsN fun _ _ _ _ _ _ us hl => match us, hl with | [_, _, _, _], _ => rfl
  have bIn : Binds K fdIn ["self", "lead", "turn"] [] := FIn.bindsN fun _ _ _ _ _ _ us hl => match us, hl with | [_, _, _], _ => rfl
  refine F.okG scRight (fun vs H Q E h => ?_) (fun cdv A outer s H vs Q E hgu hr h => ?_)
  · obtain ⟨pp, rfl, _⟩ := h
    rfl
  · obtain ⟨pp, rfl, hp, q⟩ := h
    have r1 := hr.mono (show 1 ≤ lv + 6 by omega)
    have r2 := hr.mono (show 2 ≤ lv + 6 by omega)
    have r3 := hr.mono (show 3 ≤ lv + 6 by omega)
    have r4 := hr.mono (show 4 ≤ lv + 6 by omega)
    have r5 := hr.mono (show lv + 5 ≤ lv + 6 by omega)
    have nd := scRight.nd
    refine ⟨_, PSs.nox (pss_cons (ps_set (i := 1) nd rfl (Or.inl rfl) (pe_lst (pa_cons pe_str (pa_cons pe_str (pa_cons pe_str (pa_cons pe_str (pa_cons pe_str (pa_cons pe_str (pa_cons pe_str (pa_cons pe_str pa_nil))))))))))
      (pss_cons (ps_set (i := 2) nd rfl (Or.inl rfl) (pe_call GT r2 rfl gT FT.kp bT .nil pass0 (pa_cons (pv 0) (pa_cons (pv 1) (pa_cons (pe_op op_add pe_int (pe_call GD r1 rfl gD FD.kp bD .nil pass0 (pa_cons (pv 0) (pa_cons pe_int pa_nil)))) pa_nil)))))
      (pss_cons (ps_asg (pe_call GDn r3 rfl gDn FDn.kp bDn .nil pass0 (pa_cons (pv 0) (pa_cons (pv 2) pa_nil))) (pg_tup rfl (pgs_cons (pg_name (i := 3) nd rfl (Or.inl rfl)) (pgs_cons (pg_name (i := 4) nd rfl (Or.inl rfl)) pgs_nil))))
      (pss_cons (ps_set (i := 5) nd rfl (Or.inl rfl) (pe_call GN r1 rfl gN FN.kp bN .nil pass0 (pa_cons (pv 3) (pa_cons (pv 4) pa_nil))))
      (pss_cons (ps_set (i := 6) nd rfl (Or.inl rfl) (pe_lst (pa_cons (pe_callTy call_listN rfl gList (by decide +kernel) (pa_cons (pv 3) pa_nil)) (pa_cons (pe_callTy call_listN rfl gList (by decide +kernel) (pa_cons (pv 4) pa_nil)) pa_nil))))
      (pss_cons (ps_par (i := 7) (j := 8) (by rfl) nd rfl rfl (by decide) rfl rfl (pa_cons (pe_make MC GIn r4 rfl T.gC bIn .nil pass0 (pa_cons (pe_ix ix_list (pv 6) pe_int (fun _ _ => rfl)) (pa_cons (pe_ix ix_list (pv 6) pe_int (fun _ _ => rfl)) pa_nil))) (pa_cons (pe_callTy call_listN rfl gList (by decide +kernel) (pa_cons (pv 4) pa_nil)) pa_nil)) (by rfl))
      (pss_cons (ps_if (PW.pt (pw_or (pt_cmpR (op_neD hr.units) (pv 6) (pe_lst (pa_cons (pv 3) (pa_cons (pv 4) pa_nil))) (nomark _))
          (pw_or (pt_not (pt_val (pe_callG GI hgu r5 rfl gI FI.kp bI pass0 (pa_cons (pe_make MC GIn r4 rfl T.gC bIn .nil pass0 (pa_cons (pv 8) (pa_cons (pv 8) pa_nil))) (pa_cons (pe_call GN r1 rfl gN FN.kp bN .nil pass0 (pa_cons (pe_lst pa_nil) (pa_cons (pv 4) pa_nil))) pa_nil)))))
            (pw_or1 (pt_cmpR (op_neD hr.units) (pv 8) (pv 4) (nomark _)))))) (pss_one (ps_ret pe_bl)) pss_nil)
      (pss_cons (ps_expr (pe_bm PySem.F.plainAttrs_list PySem.F.slot_list_append PySem.F.type_list_append mt_append (pe_ix ix_list (pv 6) pe_int (fun _ _ => rfl)) (pa_cons pe_str pa_nil)))
      (pss_cons (ps_expr (pe_bm0 PySem.F.plainAttrs_list PySem.F.slot_list_clear PySem.F.type_list_clear mt_clear (pe_ix ix_list (pv 6) pe_int (fun _ _ => rfl))))
      (pss_cons (ps_if (PW.pt (pw_or (pt_not (pt_val (pe_callG GI hgu r5 rfl gI FI.kp bI pass0 (pa_cons (pv 7) (pa_cons (pv 5) pa_nil))))) (pw_or1 (pt_not (pt_val (pe_callG GNm hgu hr rfl gNm FNm.kp bNm pass0 (pa_cons (pv 0) (pa_cons (pv 7) (pa_cons (pv 3) (pa_cons (pv 4) pa_nil)))))))))) (pss_one (ps_ret pe_bl)) pss_nil)
      (pss_cons (ps_set (i := 9) nd rfl (Or.inl rfl) (pe_lst (pa_cons (pe_tup (pa_cons (pv 3) (pa_cons (pe_op op_rep (pv 4) pe_int) pa_nil))) (pa_cons (pe_tup (pa_cons (pe_op op_cat (pv 3) (pv 4)) (pa_cons (pv 4) pa_nil)))
          (pa_cons (pe_tup (pa_cons (pe_op op_cat (pv 3) (pe_slice sl_list (pv 4) po_none (po_some pe_int))) (pa_cons (pe_op op_cat (pe_slice sl_list (pv 4) (po_some pe_int) po_none) (pe_slice sl_list (pv 4) po_none (po_some pe_int))) pa_nil)))
          (pa_cons (pe_tup (pa_cons (pe_ix ix_tup (pv 5) pe_int (fun _ _ => rfl)) (pa_cons (pe_ix ix_tup (pv 5) pe_int (fun _ _ => rfl)) pa_nil))) pa_nil))))))
      (pss_cons (ps_for PassesOwn.never rfl (pi_list (pe_op op_cat (pv 9) (pe_lst (pa_cons (pe_tup (pa_cons (pe_op op_cat (pe_op op_cat (pv 3) (pe_op op_rep (pv 4) pe_int)) (pe_slice sl_list (pv 4) po_none (po_some pe_int))) (pa_cons (pe_op op_rep (pe_op op_cat (pe_slice sl_list (pv 4) (po_some pe_int) po_none) (pe_slice sl_list (pv 4) po_none (po_some pe_int))) pe_int) pa_nil))) pa_nil))))
          (pg_tup rfl (pgs_cons (pg_name (i := 10) nd rfl (Or.inl rfl)) (pgs_cons (pg_name (i := 11) nd rfl (Or.inl rfl)) pgs_nil)))
        (pss_cons (ps_set (i := 12) nd rfl (Or.inl rfl) (pe_make MC GIn r4 rfl T.gC bIn .nil pass0 (pa_cons (pv 10) (pa_cons (pe_callTy call_tupN rfl gTup (by decide +kernel) (pa_cons (pv 11) pa_nil)) pa_nil))))
        (pss_one (ps_if (PW.pt (pw_or (pt_cmpR (op_neI GE.g M.eq M.ne T.hmo bE pass0 hgu r2) (pv 12) (pv 7) (nomark _)) (pw_or1 (pt_not (pt_val (pe_callG GI hgu r5 rfl gI FI.kp bI pass0 (pa_cons (pv 12) (pa_cons (pv 5) pa_nil)))))))) (pss_one (ps_ret pe_bl)) pss_nil))))
      (pss_cons (ps_asg (pe_call GDn r3 rfl gDn FDn.kp bDn .nil pass0 (pa_cons (pv 0) (pa_cons (pv 2) pa_nil))) (pg_tup rfl (pgs_cons (pg_name (i := 10) nd rfl (Or.inl rfl)) (pgs_cons (pg_name (i := 11) nd rfl (Or.inl rfl)) pgs_nil))))
      (pss_cons (ps_if (pt_cmpR op_ne (pe_cmpR (op_eqI GE.g M.eq bE pass0 hgu r1) (pe_make MC GIn r4 rfl T.gC bIn .nil pass0 (pa_cons (pv 10) (pa_cons (pv 11) pa_nil))) (pv 7) (nomark _)) (pe_cmpR (op_eqD hr.units) (pe_call GN r1 rfl gN FN.kp bN .nil pass0 (pa_cons (pv 10) (pa_cons (pv 11) pa_nil))) (pv 5) (nomark _)) (nomark _)) (pss_one (ps_ret pe_bl)) pss_nil)
      (pss_cons (ps_if (pt_cmpR op_ne (pe_cmpR (op_eqI GE.g M.eq bE pass0 hgu r1) (pe_make MC GIn r4 rfl T.gC bIn .nil pass0 (pa_cons (pe_op op_cat (pv 3) (pv 10)) (pa_cons (pv 11) pa_nil))) (pv 7) (nomark _)) (pe_cmpR (op_eqD hr.units) (pe_call GN r1 rfl gN FN.kp bN .nil pass0 (pa_cons (pe_op op_cat (pv 3) (pv 10)) (pa_cons (pv 11) pa_nil))) (pv 5) (nomark _)) (nomark _)) (pss_one (ps_ret pe_bl)) pss_nil)
      (pss_one (ps_ret (pe_and (pe_cmpR (op_neI GE.g M.eq M.ne T.hmo bE pass0 hgu r2) (pv 7) (pe_tup (pa_cons (pe_callTy call_tupN rfl gTup (by decide +kernel) (pa_cons (pv 3) pa_nil)) (pa_cons (pe_callTy call_tupN rfl gTup (by decide +kernel) (pa_cons (pv 4) pa_nil)) pa_nil))) (nomark _)) (pe_one (pe_callG GI hgu r5 rfl gI FI.kp bI pass0 (pa_cons (pv 7) (pa_cons (pv 5) pa_nil)))))))))))))))))))))), ?_⟩
    walk_at "rd"
    refine ⟨Rd.small (by show 8 ≤ 100000; decide), fun mn nmn => ?_⟩
    have s1 := same_new (o := HO.lst ([V.str "a", V.str "b", V.str "item", V.str "end", V.str "zzzzzzzz", V.str "plan", V.str "kind", V.str "ab"])) nmn
    have h1 := upd_same (H := H) (a := mn) (o := HO.lst ([V.str "a", V.str "b", V.str "item", V.str "end", V.str "zzzzzzzz", V.str "plan", V.str "kind", V.str "ab"]))
    generalize upd H mn (HO.lst ([V.str "a", V.str "b", V.str "item", V.str "end", V.str "zzzzzzzz", V.str "plan", V.str "kind", V.str "ab"])) = H1 at s1 h1 ⊢
    have h1' : H1 mn = some (.lst (menu.map V.str)) := h1
    have p1 := pot_same hp s1
    have dmn : mn ≠ pp := pot_new hp nmn
    walk_at "rd"
    refine ⟨pp, _, rfl, p1, by decide, by decide, fun d H2 d0 dl p2 b2 => ?_⟩
    obtain ⟨k, rfl⟩ := Int.eq_ofNat_of_zero_le d0
    walk_at "rd"
    have ek : (1 : Int) + (k : Int) = ((1 + k : Nat) : Int) := by omega
    rw [ek]
    have len8 : menu.length = 8 := rfl
    refine ⟨pp, mn, menu, 1 + k, rfl, p2, b2 _ _ dmn h1', dmn, by rw [len8]; omega, by rw [len8]; decide, fun sm H3 xs p3 b3 nsm hsm zx mx => ?_⟩
    have dsm : sm ≠ pp := pot_new p2 nsm
    have xne : xs ≠ [] := fun z => by rw [z, List.length_nil] at zx; omega
    walk_at "rd"
    refine ⟨pp, sm, xs, rfl, p3, hsm, dsm, xne, by omega, fun r0 a b H4 L U p4 b4 na nb hr0 ha hb zL zU zU1 mL mU => ?_⟩
    refine ⟨r0, _, rfl, SqT.of hr0, rfl, ?_⟩
    have oL : Ok L := ⟨by omega, fun x hx => mx x (mL x hx)⟩
    have oU : Ok U := ⟨by omega, fun x hx => mx x (mU x hx)⟩
    have hne : U ≠ [] := List.length_pos_iff.mp (by omega)
    have b04 : But pp H H4 := (((butS' s1).trans b2).trans b3).trans b4
    have sm4 : H4 sm = some (.lst (xs.map V.str)) := b4 _ _ dsm hsm
    walk_at "rd"
    refine ⟨a, b, L, U, rfl, .inl (SqL.of ha), .inl (SqL.of hb), oL, oU, hne, fun r p1' q1' H5 L' U' nr s5 hr5 hp5 hq5 nm sq => ?_⟩
    walk_at "rd"
    refine ⟨a, L, rfl, .inl (SqL.of (s5 _ _ ha)), fun c1 H6 nc1 s6 hc1 => ?_⟩
    walk_at "rd"
    have s46 := s5.trans s6
    refine ⟨b, U, rfl, .inl (SqL.of (s46 _ _ hb)), fun c2 H7 nc2 s7 hc2 => ?_⟩
    have s47 := s46.trans s7
    walk_at "rd"
    refine ⟨Rd.small (by show 2 ≤ 100000; decide), fun pd npd => ?_⟩
    have s8 := same_new (o := HO.lst ([V.ref c1, V.ref c2])) npd
    have hpd := upd_same (H := H7) (a := pd) (o := HO.lst ([V.ref c1, V.ref c2]))
    generalize upd H7 pd (HO.lst ([V.ref c1, V.ref c2])) = H8 at s8 hpd ⊢
    have s48 := s47.trans s8
    have hc1_8 := s8 _ _ (s7 _ _ hc1)
    have hc2_8 := s8 _ _ hc2
    walk_at "rd"
    refine Rd.ixL' (SqL.of hpd) (atI_nat (j := 0) rfl) ?_
    walk_at "rd"
    refine Rd.ixL' (SqL.of hpd) (atI_nat (j := 1) rfl) ?_
    walk_at "rd"
    refine mkFillG (.inl (SqL.of hc1_8)) (.inl (SqL.of hc2_8)) oL oU hne fun x H9 L2 U2 nx s9 hf nm2 sq2 => ?_
    obtain ⟨rfl, rfl⟩ := M23.nf_one nm2.nf nm.nf fun i => (sq2 i).trans (sq i).symm
    walk_at "rd"
    have s49 := s48.trans s9
    refine ⟨b, U, rfl, .inl (SqL.of (s49 _ _ hb)), fun sa H10 nsa s10 hsa => ?_⟩
    walk_at "rd"
    refine ⟨_, _, rfl, ?_⟩
    have s4_10 := s49.trans s10
    have s5_10 := s6.trans (s7.trans (s8.trans (s9.trans s10)))
    have R10 : Rt K C pp sm a b r p1' q1' x xs L U L2 U2 H10 := ⟨pot_same p4 s4_10, s4_10 _ _ sm4, s4_10 _ _ ha, s4_10 _ _ hb, (SqT.of hr5).ext s5_10, hp5.ext s5_10, hq5.ext s5_10, hf.same s10⟩
    walk_at "rd"
    refine ⟨Rd.small (by show 2 ≤ 100000; decide), fun pl npl => ?_⟩
    have s11 := same_new (o := HO.lst ([V.ref a, V.ref b])) npl
    have hpl := upd_same (H := H10) (a := pl) (o := HO.lst ([V.ref a, V.ref b]))
    generalize upd H10 pl (HO.lst ([V.ref a, V.ref b])) = H11 at s11 hpl ⊢
    have s8_11 := s9.trans (s10.trans s11)
    have R11 := R10.same s11
    refine ⟨_, _, twoL_dp (SqL.of (s8_11 _ _ hpd)) (SqL.of (s8_11 _ _ hc1_8)) (SqL.of (s8_11 _ _ hc2_8)), twoL_dp (SqL.of hpl) (SqL.of R11.lead) (SqL.of R11.turn), twoL_shaped oL oU, twoL_shaped oL oU, ?_⟩
    rw [twoL_eqv]
    walk_at "rd"
    refine iteF ?_
    have hsa11 := s11 _ _ hsa
    walk_at "rd"
    refine mkFillG (.inl (SqL.of hsa11)) (.inl (SqL.of hsa11)) oU oU hne fun x3 H12 L3 U3 nx3 s12 hf3 nm3 sq3 => ?_
    walk_at "rd"
    refine ⟨Rd.small (by show 0 ≤ 100000; decide), fun e0 ne0 => ?_⟩
    have s13 := same_new (o := HO.lst ([])) ne0
    have he0 := upd_same (H := H12) (a := e0) (o := HO.lst ([]))
    generalize upd H12 e0 (HO.lst ([])) = H13 at s13 he0 ⊢
    walk_at "rd"
    have R13 := (R11.same s12).same s13
    refine ⟨e0, b, [], U, rfl, .inl (SqL.of he0), .inl (SqL.of R13.turn), ⟨by decide, fun _ h => absurd h List.not_mem_nil⟩, oU, hne, fun r4 p4' q4' H14 L4 U4 nr4 s14 hr4 hp4 hq4 nm4 sq4 => ?_⟩
    obtain ⟨rfl, rfl⟩ := M23.nf_one nm3.nf nm4.nf fun i => (sq3 i).trans ((M23.w_app (L := []) i).trans (sq4 i).symm)
    walk_at "rd"
    refine ⟨x3, r4, p4', q4', L3, U3, rfl, hf3.same (s13.trans s14), nm3, SqT.of hr4, hp4, hq4, fun H15 s15 => ?_⟩
    walk_at "rd"
    refine iteF ?_
    have R15 := (R13.same s14).same s15
    have s11_15 := s12.trans (s13.trans (s14.trans s15))
    walk_at "rd"
    refine ⟨_, _, .lst (SqL.of (s11_15 _ _ hsa11)) (dpa_strs U), .lst (SqL.of R15.turn) (dpa_strs U), shaped_lst oU.strs, shaped_lst oU.strs, ?_⟩
    rw [eqv_lists, decide_eq_true rfl]
    walk_at "rd"
    refine iteF ?_
    have s8_15 := s8_11.trans s11_15
    have hpd15 := s8_15 _ _ hpd
    have hc1_15 := s8_15 _ _ hc1_8
    have hc2_15 := s8_15 _ _ hc2_8
    have f6 : ∀ {z : Addr} {o : HO}, H5 z = some o → z ≠ c1 := fun e => ne_of_none e nc1
    have f7 : ∀ {z : Addr} {o : HO}, H6 z = some o → z ≠ c2 := fun e => ne_of_none e nc2
    have dpd1 : pd ≠ c1 := (ne_of_none (s7 _ _ hc1) npd).symm
    have dc12 : c1 ≠ c2 := ne_of_none hc1 nc2
    obtain ⟨pu, pv, pe, pz⟩ := id p4
    walk_at "rd"
    refine Rd.ixL' (SqL.of hpd15) (atI_nat (j := 0) rfl) ?_
    walk_at "rd"
    refine ⟨.inl ⟨rfl, _, SqL.of hc1_15⟩, ?_⟩
    walk_at "rd"
    refine ⟨c1, _, _, rfl, rfl, hc1_15, Nat.lt_of_lt_of_le (show (L.map V.str).length < 100000 by rw [List.length_map]; omega) (by decide), ?_⟩
    have b16 := But.set (p := c1) (H := H15) (o := HO.lst (L.map V.str ++ [V.str "odd"]))
    generalize upd H15 c1 (HO.lst (L.map V.str ++ [V.str "odd"])) = H16 at b16 ⊢
    have R16 := R15.upd hc1_15 (f6 (s5 _ _ pe)) (f6 (s5 _ _ sm4)) (f6 (s5 _ _ ha)) (f6 (s5 _ _ hb)) b16
    walk_at "rd"
    refine Rd.ixL' (SqL.of (b16 _ _ dpd1 hpd15)) (atI_nat (j := 1) rfl) ?_
    have hc2_16 := b16 _ _ dc12.symm hc2_15
    walk_at "rd"
    refine ⟨.inl ⟨rfl, _, SqL.of hc2_16⟩, ?_⟩
    refine ⟨c2, _, rfl, rfl, hc2_16, ?_⟩
    have b17 := But.set (p := c2) (H := H16) (o := HO.lst [])
    generalize upd H16 c2 (HO.lst []) = H17 at b17 ⊢
    have R17 := R16.upd hc2_16 (f7 (s46 _ _ pe)) (f7 (s46 _ _ sm4)) (f7 (s46 _ _ ha)) (f7 (s46 _ _ hb)) b17
    have b4_17 : But pp H4 H17 := fun z o hz e => b17 z o (f7 (s46 _ _ e)) (b16 z o (f6 (s5 _ _ e)) ((s48.trans s8_15) z o e))
    have b0_17 := b04.trans b4_17
    walk_at "rd"
    refine ⟨x, r, p1', q1', L2, U2, rfl, R17.fill, nm, R17.nrm, R17.np, R17.nq, fun H18 s18 => ?_⟩
    have R18 := R17.same s18
    walk_at "rd"
    refine iteF ?_
    walk_at "rd"
    refine ⟨pp, x, a, b, L, U, L2, U2, rfl, ⟨R18.pot, R18.fill, R18.lead, R18.turn⟩, na, nb, nm, oL, oU, hne, sq, fun H19 p19 b19 => ?_⟩
    have R19 := R18.but dsm na nb p19 b19
    have b0_19 := (b0_17.trans (butS' s18)).trans b19
    walk_at "rd"
    refine iteF ?_
    walk_at "rd"
    refine repStep (k := 3) R19.turn (by decide) (by omega) fun w1 H20 nw1 s20 hw1 => ?_
    walk_at "rd"
    refine ⟨Rd.small (by show 2 ≤ 100000; decide), fun t1 nt1 => ?_⟩
    have s21 := same_new (o := HO.tup ([V.ref a, V.ref w1])) nt1
    have ht1 := upd_same (H := H20) (a := t1) (o := HO.tup ([V.ref a, V.ref w1]))
    generalize upd H20 t1 (HO.tup ([V.ref a, V.ref w1])) = H21 at s21 ht1 ⊢
    have R21 := (R19.same s20).same s21
    walk_at "rd"
    refine catStep R21.lead R21.turn (by omega) fun w2 H22 nw2 s22 hw2 => ?_
    walk_at "rd"
    refine ⟨Rd.small (by show 2 ≤ 100000; decide), fun t2 nt2 => ?_⟩
    have s23 := same_new (o := HO.tup ([V.ref w2, V.ref b])) nt2
    have ht2 := upd_same (H := H22) (a := t2) (o := HO.tup ([V.ref w2, V.ref b]))
    generalize upd H22 t2 (HO.tup ([V.ref w2, V.ref b])) = H23 at s23 ht2 ⊢
    have R23 := (R21.same s22).same s23
    walk_at "rd"
    refine toStep R23.turn fun w3 H24 nw3 s24 hw3 => ?_
    have R24 := R23.same s24
    have zt : (U.take 1).length ≤ 1 := by rw [List.length_take]; omega
    have zd : (U.drop 1).length ≤ 4 := by rw [List.length_drop]; omega
    refine catStep R24.lead hw3 (by omega) fun w4 H25 nw4 s25 hw4 => ?_
    have R25 := R24.same s25
    walk_at "rd"
    refine fromStep R25.turn zU1 fun w5 H26 nw5 s26 hw5 => ?_
    have R26 := R25.same s26
    walk_at "rd"
    refine toStep R26.turn fun w6 H27 nw6 s27 hw6 => ?_
    have R27 := R26.same s27
    refine catStep (s27 _ _ hw5) hw6 (by omega) fun w7 H28 nw7 s28 hw7 => ?_
    walk_at "rd"
    refine ⟨Rd.small (by show 2 ≤ 100000; decide), fun t3 nt3 => ?_⟩
    have s29 := same_new (o := HO.tup ([V.ref w4, V.ref w7])) nt3
    have ht3 := upd_same (H := H28) (a := t3) (o := HO.tup ([V.ref w4, V.ref w7]))
    generalize upd H28 t3 (HO.tup ([V.ref w4, V.ref w7])) = H29 at s29 ht3 ⊢
    have R29 := (R27.same s28).same s29
    walk_at "rd"
    refine Rd.ixT R29.nrm (atI_nat (j := 0) rfl) ?_
    walk_at "rd"
    refine Rd.ixT R29.nrm (atI_nat (j := 1) rfl) ?_
    walk_at "rd"
    refine ⟨Rd.small (by show 2 ≤ 100000; decide), fun t4 nt4 => ?_⟩
    have s30 := same_new (o := HO.tup ([V.ref p1', V.ref q1'])) nt4
    have ht4 := upd_same (H := H29) (a := t4) (o := HO.tup ([V.ref p1', V.ref q1']))
    generalize upd H29 t4 (HO.tup ([V.ref p1', V.ref q1'])) = H30 at s30 ht4 ⊢
    have R30 := R29.same s30
    walk_at "rd"
    refine ⟨Rd.small (by show 4 ≤ 100000; decide), fun wl nwl => ?_⟩
    have s31 := same_new (o := HO.lst ([V.ref t1, V.ref t2, V.ref t3, V.ref t4])) nwl
    have hwl := upd_same (H := H30) (a := wl) (o := HO.lst ([V.ref t1, V.ref t2, V.ref t3, V.ref t4]))
    generalize upd H30 wl (HO.lst ([V.ref t1, V.ref t2, V.ref t3, V.ref t4])) = H31 at s31 hwl ⊢
    have R31 := R30.same s31
    walk_at "rd"
    refine repStep (k := 2) R31.turn (by decide) (by omega) fun w8 H32 nw8 s32 hw8 => ?_
    have R32 := R31.same s32
    have z2 : (M23.rep 2 U).length ≤ 8 := by rw [M23.rep_len]; omega
    refine catStep R32.lead hw8 (by omega) fun w9 H33 nw9 s33 hw9 => ?_
    have R33 := R32.same s33
    walk_at "rd"
    refine toStep R33.turn fun w10 H34 nw10 s34 hw10 => ?_
    have R34 := R33.same s34
    refine catStep (s34 _ _ hw9) hw10 (by rw [List.length_append]; omega) fun w11 H35 nw11 s35 hw11 => ?_
    have R35 := R34.same s35
    walk_at "rd"
    refine fromStep R35.turn zU1 fun w12 H36 nw12 s36 hw12 => ?_
    have R36 := R35.same s36
    walk_at "rd"
    refine toStep R36.turn fun w13 H37 nw13 s37 hw13 => ?_
    have R37 := R36.same s37
    refine catStep (s37 _ _ hw12) hw13 (by omega) fun w14 H38 nw14 s38 hw14 => ?_
    have R38 := R37.same s38
    walk_at "rd"
    refine repStep (k := 2) hw14 (by decide) (by rw [List.length_append]; omega) fun w15 H39 nw15 s39 hw15 => ?_
    have R39 := R38.same s39
    walk_at "rd"
    refine ⟨Rd.small (by show 2 ≤ 100000; decide), fun t5 nt5 => ?_⟩
    have s40 := same_new (o := HO.tup ([V.ref w11, V.ref w15])) nt5
    have ht5 := upd_same (H := H39) (a := t5) (o := HO.tup ([V.ref w11, V.ref w15]))
    generalize upd H39 t5 (HO.tup ([V.ref w11, V.ref w15])) = H40 at s40 ht5 ⊢
    have R40 := R39.same s40
    walk_at "rd"
    refine ⟨Rd.small (by show 1 ≤ 100000; decide), fun l5 nl5 => ?_⟩
    have s41 := same_new (o := HO.lst ([V.ref t5])) nl5
    have hl5 := upd_same (H := H40) (a := l5) (o := HO.lst ([V.ref t5]))
    generalize upd H40 l5 (HO.lst ([V.ref t5])) = H41 at s41 hl5 ⊢
    have R41 := R40.same s41
    have s31_41 := s32.trans (s33.trans (s34.trans (s35.trans (s36.trans (s37.trans (s38.trans (s39.trans (s40.trans s41))))))))
    refine ⟨wl, l5, _, _, rfl, rfl, s31_41 _ _ hwl, hl5, Rd.small (by show 5 ≤ 100000; decide), fun ws nws => ?_⟩
    have s42 := same_new (o := HO.lst ([V.ref t1, V.ref t2, V.ref t3, V.ref t4] ++ [V.ref t5])) nws
    have hws := upd_same (H := H41) (a := ws) (o := HO.lst ([V.ref t1, V.ref t2, V.ref t3, V.ref t4] ++ [V.ref t5]))
    generalize upd H41 ws (HO.lst ([V.ref t1, V.ref t2, V.ref t3, V.ref t4] ++ [V.ref t5])) = H42 at s42 hws ⊢
    have R42 := R41.same s42
    have s31_42 := s31_41.trans s42
    have s29_42 := s30.trans (s31.trans s31_42)
    have s25_42 := s26.trans (s27.trans (s28.trans (s29.trans s29_42)))
    have s23_42 := s24.trans (s25.trans s25_42)
    have s21_42 := s22.trans (s23.trans s23_42)
    have oT1 := oU.take 1
    have oD1 := oU.drop 1
    have ner : ∀ n, 0 < n → M23.rep n U ≠ [] := fun n h z => by
      have y := congrArg List.length z
      rw [M23.rep_len] at y
      have := Nat.mul_pos h (List.length_pos_iff.mpr hne)
      simp at y
      omega
    have rot1 : U.drop 1 ++ U.take 1 = M23.rot 1 U := rfl
    have wvs : ∀ v ∈ [V.ref t1, V.ref t2, V.ref t3, V.ref t4] ++ [V.ref t5], WV K L U H42 v := fun v hv => by
      simp only [List.cons_append, List.nil_append, List.mem_cons, List.not_mem_nil, or_false] at hv
      rcases hv with rfl | rfl | rfl | rfl | rfl
      · exact ⟨t1, a, w1, L, M23.rep 3 U, rfl, SqT.of (s21_42 _ _ ht1), .inl (SqL.of R42.lead), .inl (SqL.of ((s21.trans s21_42) _ _ hw1)), oL, oU.rep 3 (by omega), ner 3 (by decide), fun i => M23.w_rep (by decide) i⟩
      · exact ⟨t2, w2, b, L ++ U, U, rfl, SqT.of (s23_42 _ _ ht2), .inl (SqL.of ((s23.trans s23_42) _ _ hw2)), .inl (SqL.of R42.turn), oL.app oU (by omega), oU, hne, fun i => M23.w_app i⟩
      · exact ⟨t3, w4, w7, L ++ U.take 1, U.drop 1 ++ U.take 1, rfl, SqT.of (s29_42 _ _ ht3), .inl (SqL.of (s25_42 _ _ hw4)), .inl (SqL.of ((s29.trans s29_42) _ _ hw7)), oL.app oT1 (by omega), oU.rot 1, M23.rot_ne hne, fun i => M23.w_rot zU1 hne i⟩
      · exact ⟨t4, p1', q1', L2, U2, rfl, SqT.of ((s31.trans s31_42) _ _ ht4), .inr R42.np, .inr R42.nq, nm.oL, nm.oT, nm.nf.ne, sq⟩
      · refine ⟨t5, w11, w15, (L ++ M23.rep 2 U) ++ U.take 1, M23.rep 2 (U.drop 1 ++ U.take 1), rfl, SqT.of ((s41.trans s42) _ _ ht5), .inl (SqL.of ((s36.trans (s37.trans (s38.trans (s39.trans (s40.trans (s41.trans s42)))))) _ _ hw11)), .inl (SqL.of ((s40.trans (s41.trans s42)) _ _ hw15)), (oL.app (oU.rep 2 (by omega)) (by omega)).app oT1 (by rw [List.length_append]; omega), (oU.rot 1).rep 2 (by rw [M23.rot_len]; omega), fun z => ?_, fun i => ?_⟩
        · have y := congrArg List.length z
          rw [M23.rep_len, rot1, M23.rot_len] at y
          simp at y
          omega
        · rw [List.append_assoc]
          exact M23.w_far (by decide) zU1 hne i
    generalize [V.ref t1, V.ref t2, V.ref t3, V.ref t4] ++ [V.ref t5] = wss at hws wvs
    have b0_42 : But pp H H42 := b0_19.trans (butS' (s20.trans (s21.trans s21_42)))
    refine ⟨ws, rfl, ⟨_, SqL.of hws⟩, ?_⟩
    refine for_it (walk_list (xs := wss)) (fun i σ H' => (∃ c10 c11 c12, σ = [some (.ref pp), some (.ref mn), some (.ref sm), some (.ref a), some (.ref b), some (.ref r), some (.ref pd), some (.ref x), some (.ref sa), some (.ref wl), c10, c11, c12]) ∧ Same H42 H') ⟨⟨_, _, _, rfl⟩, Same.refl _⟩ (fun i σ H' _ hp => SqL.of (hp.2 _ _ hws)) (fun i v σ H43 H44 hi hp' hy => ?_) (fun σ H43 hp' => ?_)
    · obtain ⟨⟨c10, c11, c12, rfl⟩, s43⟩ := hp'
      obtain ⟨rfl, hx⟩ := hy
      obtain ⟨rr, aa, bb, l, t, rfl, g1, g2, g3, g4, g5, g6, g7⟩ := (wvs v (List.mem_of_getElem? hx)).same s43
      have R43 := R42.same s43
      refine ⟨rr, _, rfl, g1, rfl, ?_⟩
      walk_at "rd"
      refine ⟨bb, t, rfl, g3, fun w H45 s45 hw => ?_⟩
      walk_at "rd"
      refine mkFillG (g2.same s45) (.inr hw) g4 g5 g6 fun x5 H46 L5 U5 nx5 s46 hf5 nm5 sq5 => ?_
      obtain ⟨rfl, rfl⟩ := M23.nf_one nm5.nf nm.nf fun i => (sq5 i).trans ((g7 i).trans (sq i).symm)
      have R46 := (R43.same s45).same s46
      walk_at "rd"
      refine eqFill T M hf5 R46.fill nm5.oL nm5.oT nm5.oL nm5.oT ?_
      rw [decide_eq_true rfl, decide_eq_true rfl]
      walk_at "rd"
      refine iteF ?_
      walk_at "rd"
      refine ⟨x5, r, p1', q1', L5, U5, rfl, hf5, nm5, R46.nrm, R46.np, R46.nq, fun H47 s47 => ?_⟩
      walk_at "rd"
      refine iteF ?_
      walk_at "rd"
      exact ⟨⟨_, _, _, rfl⟩, s43.trans (s45.trans (s46.trans s47))⟩
    obtain ⟨⟨c10, c11, c12, rfl⟩, s43⟩ := hp'
    have R43 := R42.same s43
    dsimp only
    walk_at "rd"
    refine ⟨pp, sm, xs, rfl, R43.pot, R43.sm_, dsm, xne, by omega, fun r6 a6 b6 H44 L6 U6 p44 b44 na6 nb6 hr6 ha6 hb6 zL6 zU6 zU61 mL6 mU6 => ?_⟩
    refine ⟨r6, _, rfl, SqT.of hr6, rfl, ?_⟩
    have oL6 : Ok L6 := ⟨by omega, fun x hx => mx x (mL6 x hx)⟩
    have oU6 : Ok U6 := ⟨by omega, fun x hx => mx x (mU6 x hx)⟩
    have hne6 : U6 ≠ [] := List.length_pos_iff.mp (by omega)
    have R44 := R43.but dsm na nb p44 b44
    have b0_44 := (b0_42.trans (butS' s43)).trans b44
    walk_at "rd"
    refine mkFillG (.inl (SqL.of ha6)) (.inl (SqL.of hb6)) oL6 oU6 hne6 fun x7 H45 L7 U7 nx7 s45 hf7 nm7 sq7 => ?_
    have R45 := R44.same s45
    walk_at "rd"
    refine eqFill T M hf7 R45.fill nm7.oL nm7.oT nm.oL nm.oT ?_
    walk_at "rd"
    refine ⟨a6, b6, L6, U6, rfl, .inl (SqL.of (s45 _ _ ha6)), .inl (SqL.of (s45 _ _ hb6)), oL6, oU6, hne6, fun r8 p8 q8 H46 L8 U8 nr8 s46 hr8 hp8 hq8 nm8 sq8 => ?_⟩
    obtain ⟨rfl, rfl⟩ := M23.nf_one nm7.nf nm8.nf fun i => (sq7 i).trans (sq8 i).symm
    have R46 := R45.same s46
    walk_at "rd"
    refine ⟨_, _, twoT_dp (SqT.of hr8) hp8 hq8, twoT_dp R46.nrm R46.np R46.nq, twoT_shaped nm7.oL nm7.oT, twoT_shaped nm.oL nm.oT, ?_⟩
    rw [twoT_eqv]
    walk_at "rd"
    refine Rd.ifB (fun w => ?_) (fun _ => ?_)
    · simp at w
    walk_at "rd"
    refine catStep R46.lead (s46 _ _ (s45 _ _ ha6)) (by omega) fun w16 H47 nw16 s47 hw16 => ?_
    have R47 := R46.same s47
    have s44_47 := s45.trans (s46.trans s47)
    have oLL := oL.app oL6 (by omega)
    walk_at "rd"
    refine mkFillG (.inl (SqL.of hw16)) (.inl (SqL.of (s44_47 _ _ hb6))) oLL oU6 hne6 fun x9 H48 L9 U9 nx9 s48 hf9 nm9 sq9 => ?_
    have R48 := R47.same s48
    have s44_48 := s44_47.trans s48
    walk_at "rd"
    refine eqFill T M hf9 R48.fill nm9.oL nm9.oT nm.oL nm.oT ?_
    walk_at "rd"
    refine catStep R48.lead (s44_48 _ _ ha6) (by omega) fun w17 H49 nw17 s49 hw17 => ?_
    have R49 := R48.same s49
    walk_at "rd"
    refine ⟨w17, b6, L ++ L6, U6, rfl, .inl (SqL.of hw17), .inl (SqL.of ((s44_48.trans s49) _ _ hb6)), oLL, oU6, hne6, fun r10 p10 q10 H50 L10 U10 nr10 s50 hr10 hp10 hq10 nm10 sq10 => ?_⟩
    obtain ⟨rfl, rfl⟩ := M23.nf_one nm9.nf nm10.nf fun i => (sq9 i).trans (sq10 i).symm
    have R50 := R49.same s50
    walk_at "rd"
    refine ⟨_, _, twoT_dp (SqT.of hr10) hp10 hq10, twoT_dp R50.nrm R50.np R50.nq, twoT_shaped nm9.oL nm9.oT, twoT_shaped nm.oL nm.oT, ?_⟩
    rw [twoT_eqv]
    walk_at "rd"
    refine Rd.ifB (fun w => ?_) (fun _ => ?_)
    · simp at w
    walk_at "rd"
    refine ⟨a, L, rfl, .inl (SqL.of R50.lead), fun e1 H51 s51 he1 => ?_⟩
    walk_at "rd"
    refine ⟨b, U, rfl, .inl (SqL.of (R50.same s51).turn), fun e2 H52 s52 he2 => ?_⟩
    have R52 := (R50.same s51).same s52
    walk_at "rd"
    refine ⟨Rd.small (by show 2 ≤ 100000; decide), fun t6 nt6 => ?_⟩
    have s53 := same_new (o := HO.tup ([V.ref e1, V.ref e2])) nt6
    have ht6 := upd_same (H := H52) (a := t6) (o := HO.tup ([V.ref e1, V.ref e2]))
    generalize upd H52 t6 (HO.tup ([V.ref e1, V.ref e2])) = H53 at s53 ht6 ⊢
    have R53 := R52.same s53
    obtain ⟨dx, px, qx, hx53, _, _⟩ := id R53.fill
    refine ⟨x, dx, _, .type "tuple", rfl, hx53, seq_ty (SqT.of ht6), M.firstT, x, .ref t6, L2, U2, rfl, R53.fill, nm.oL, nm.oT, .inr ⟨seq_ty (SqT.of ht6), _, rfl, ?_⟩⟩
    refine Rd.isT rfl ?_
    walk_at "rd"
    refine ⟨x, r, p1', q1', L2, U2, rfl, R53.fill, nm, R53.nrm, R53.np, R53.nq, fun H54 s54 => ?_⟩
    have R54 := R53.same s54
    exact q H54 R54.pot (b0_44.trans (butS' (s45.trans (s46.trans (s47.trans (s48.trans (s49.trans (s50.trans (s51.trans (s52.trans (s53.trans s54)))))))))))
end
end K23

namespace K23
open PySem PySem.Spec PyProof.Rows L2
local macro_rules | `(tactic| walk_at "rd1") => `(tactic| first
  | (with_reducible refine Rd.seq ?_) | (with_reducible refine Rd.asg ?_) | (with_reducible refine Rd.ret ?_) | (with_reducible refine Rd.nxt ?_) | (with_reducible refine Rd.ifS ?_)
  | (with_reducible refine Rd.op ?_) | (with_reducible refine Rd.un ?_) | (with_reducible refine Rd.cb ?_) | (with_reducible refine Rd.cons ?_) | (with_reducible refine Rd.nil ?_) | (with_reducible refine Rd.ifx ?_)
  | (with_reducible refine Rd.test ?_) | (with_reducible refine Rd.testB ?_) | (with_reducible refine Rd.notT ?_) | (with_reducible refine Rd.isB ?_) | (with_reducible refine Rd.lst ?_) | (with_reducible refine Rd.tup ?_)
  | (with_reducible refine Rd.andV ?_) | (with_reducible refine Rd.orV ?_) | (with_reducible refine Rd.notV ?_) | (with_reducible refine Rd.andT ?_) | (with_reducible refine Rd.orT ?_) | (with_reducible refine Rd.chain ?_)
  | (with_reducible refine Rd.m0 ?_) | (with_reducible refine Rd.m1 ?_) | (with_reducible refine Rd.bm0 ?_) | (with_reducible refine Rd.bm ?_) | (with_reducible refine Rd.sl ?_) | (with_reducible refine Rd.part ?_) | (with_reducible refine Rd.part0 ?_) | (with_reducible refine Rd.isI ?_)
  | (with_reducible refine Rd.fmt ?_) | (with_reducible refine Rd.fmtRD ?_) | (with_reducible refine Rd.meth ?_) | (with_reducible refine Rd.make ?_) | (with_reducible refine Rd.prop ?_) | (with_reducible refine Rd.js ?_) | (with_reducible refine Rd.js0 ?_) | (with_reducible refine Rd.par ?_) | (with_reducible refine Rd.star ?_) | (with_reducible refine lcR1 ?_) | (with_reducible refine lcR2 ?_) | (with_reducible refine Rd.fld ?_) | (with_reducible refine Rd.sfld ?_) | (with_reducible refine Rd.expr ?_) | (with_reducible refine L2.isNR ?_) | (with_reducible refine L2.methI ?_) | (with_reducible refine Rd.forZ ?_)
  | (with_reducible refine Rd.forEA ?_) | (with_reducible refine Rd.forR1 ?_) | (with_reducible refine Rd.forR2 ?_) | (with_reducible refine Rd.forL ?_) | (with_reducible refine Rd.forT ?_)
  | (with_reducible refine Rd.call ?_) | (with_reducible refine Rd.asgG ?_) | (with_reducible refine Rd.gNm ?_) | (with_reducible refine Rd.gSb ?_) | (with_reducible refine Rd.gC ?_) | (with_reducible refine Rd.gN ?_)
  | ((with_reducible refine' Rd.var ?hv ?_); (case hv => exact rfl)) | (with_reducible refine Rd.c ?_) | (with_reducible refine Rd.i0 ?_) | (with_reducible refine Rd.neg ?_)
  | ((with_reducible refine' Rd.iC ?hc ?_); (case hc => first | (show (0 : Int) < _; decide) | exact ⟨by decide, by decide⟩ | exact ⟨by decide, by decide, by decide⟩ | exact .inl ⟨by decide, by decide⟩ | exact .inr ⟨by decide, by decide⟩ | exact .inl ⟨by omega, by omega⟩ | (show (0 : Int) < _; omega) | exact ⟨by omega, by omega⟩))
  | ((with_reducible refine' Rd.eqS ?hc ?_); (case hc => rfl)) | ((with_reducible refine' Rd.neS ?hc ?_); (case hc => rfl)))
local macro_rules | `(tactic| walk_at "rd") => `(tactic| repeat walk_at "rd1")
abbrev sLaw : Stmt := topA iLaw
def spLaw (K : PySem.W.Frag) : Sp := fun vs H Q _ => ∃ (a : Addr) (ns : List Int), vs = [.ref a] ∧ SqL K H a (ns.map V.int) ∧ ns.length ≤ 63 ∧ ∀ H', Q (.bl true) H'
theorem three (n : Nat) : ∃ J : Nat, J ≤ 3 ∧ (if (if 3 < (n : Int) then 3 else (n : Int)) > 1 then (if 3 < (n : Int) then 3 else (n : Int)) else 1) = (J : Int) := by
  by_cases h : (3 : Int) < (n : Int)
  · rw [if_pos h]
    exact ⟨3, by omega, rfl⟩
  · rw [if_neg h]
    by_cases g : (n : Int) > 1
    · exact ⟨n, by omega, if_pos g⟩
    · exact ⟨1, by omega, if_neg g⟩
section
variable {P : Program} {w : World} {K : PySem.W.Frag} {mg : Str → Option Value} {base : Heap} {f fP fR : Addr} {fd fdP fdR : FuncData} {lv : Nat}
theorem scLaw : FnScope ["_law_script", "_law_k", "_law_pot_here"] ["_law_script"] (defScope sLaw) := ⟨rfl, rfl, rfl, by decide +kernel, rfl, by decide +kernel, by decide +kernel⟩
theorem ok_law (F : FnP K "law" sLaw f fd) (FP : FnP K "_law_pot" sPot fP fdP) (FR : FnP K "_law_right" sRight fR fdR) (GP : FnOk P w K mg base CX0 1 fP fdP ["_law_script", "_law_k"] (spPot K)) (GR : FnG P w K mg base CX0 (lv + 7) fR fdR ["_law_pot_here"] spRight)
    (hP : mg "_law_pot" = some (.ref fP)) (hR : mg "_law_right" = some (.ref fR)) (gRange : mg "range" = none) (gMax : mg "max" = none) (gMin : mg "min" = none) (gLen : mg "len" = none) : FnG P w K mg base CX0 (lv + 8) f fd ["_law_script"] (spLaw K) := by
  have bP : Binds K fdP ["_law_script", "_law_k"] [] := FP.bindsN fun _ _ _ _ _ _ us hl => match us, hl with | [_, _], _ => rfl
  have bR : Binds K fdR ["_law_pot_here"] [] := FR.bindsN fun _ _ _ _ _ _ us hl => match us, hl with | [_], _ => rfl
  refine F.okG scLaw (fun vs H Q E h => ?_) (fun cdv A outer s H vs Q E hgu hr h => ?_)
  · obtain ⟨a, ns, rfl, _⟩ := h
    rfl
  · obtain ⟨a, ns, rfl, hS, hl, q⟩ := h
    refine ⟨_, PSs.nox (pss_cons (ps_for PassesOwn.never rfl (pi_range1 rfl gRange (pa_cons (pe_callB (call_max2 rfl) rfl gMax (by decide +kernel) (pa_cons pe_int (pa_cons (pe_callB (call_min2 rfl) rfl gMin (by decide +kernel) (pa_cons (pe_callB call_len rfl gLen (by decide +kernel) (pa_cons (pv 0) pa_nil)) (pa_cons pe_int pa_nil))) pa_nil))) pa_nil)) (pg_name (i := 1) scLaw.nd rfl (Or.inl rfl))
        (pss_cons (ps_set (i := 2) scLaw.nd rfl (Or.inl rfl) (pe_call GP (hr.mono (by omega)) rfl hP FP.kp bP .nil pass0 (pa_cons (pv 0) (pa_cons (pv 1) pa_nil))))
        (pss_one (ps_if (PW.pt (pw_or (pt_not (pt_val (pe_callG GR hgu hr rfl hR FR.kp bR pass0 (pa_cons (pv 2) pa_nil)))) (pw_or1 (pt_not (pt_val (pe_callG GR hgu hr rfl hR FR.kp bR pass0 (pa_cons (pv 2) pa_nil))))))) (pss_one (ps_ret pe_bl)) pss_nil))))
      (pss_one (ps_ret pe_bl))), ?_⟩
    walk_at "rd"
    refine ⟨_, _, rfl, .inl ⟨_, hS, rfl⟩, ?_⟩
    walk_at "rd"
    refine ⟨_, _, rfl, ?_⟩
    walk_at "rd"
    refine ⟨_, _, rfl, ?_⟩
    walk_at "rd"
    obtain ⟨J, hJ, eJ⟩ := three (ns.map V.int).length
    refine ⟨_, rfl, by rw [eJ]; omega, by rw [eJ]; omega, ?_⟩
    rw [eJ]
    refine for_it walk_range (fun i σ H' => (∃ b c, σ = [some (V.ref a), b, c]) ∧ Same H H') ⟨⟨_, _, rfl⟩, Same.refl _⟩ (fun _ _ _ _ _ => trivial) (fun i x σ H' G hi h hy => ?_) (fun σ H' h => ?_)
    · obtain ⟨⟨b, c, rfl⟩, z⟩ := h
      obtain ⟨rfl, rfl⟩ := hy
      rw [Int.toNat_natCast] at hi
      walk_at "rd"
      refine ⟨a, ns, i, by show [V.ref a, V.int (0 + (i : Int))] ++ [] = _; rw [Int.zero_add]; rfl, hS.ext z, hl, by omega, fun p H2 hp s2 pt2 => ?_⟩
      walk_at "rd"
      refine ⟨p, rfl, pt2, fun H3 p3 b3 => ?_⟩
      walk_at "rd"
      refine iteF ?_
      walk_at "rd"
      refine ⟨p, rfl, p3, fun H4 p4 b4 => ?_⟩
      walk_at "rd"
      refine iteF ?_
      walk_at "rd"
      exact ⟨⟨_, _, rfl⟩, fun b u e => (b3.trans b4) b u (ne_of_none (z b u e) hp) (s2 b u (z b u e))⟩
    · exact q _
end
end K23

/-! The text of a fill is read back. -/
namespace K23
open PySem PySem.Spec PyProof.Rows L2
local macro_rules | `(tactic| walk_at "rd1") => `(tactic| first
  | (with_reducible refine Rd.seq ?_) | (with_reducible refine Rd.asg ?_) | (with_reducible refine Rd.ret ?_) | (with_reducible refine Rd.nxt ?_) | (with_reducible refine Rd.ifS ?_)
  | (with_reducible refine Rd.op ?_) | (with_reducible refine Rd.un ?_) | (with_reducible refine Rd.cb ?_) | (with_reducible refine Rd.cons ?_) | (with_reducible refine Rd.nil ?_) | (with_reducible refine Rd.ifx ?_)
  | (with_reducible refine Rd.test ?_) | (with_reducible refine Rd.testB ?_) | (with_reducible refine Rd.notT ?_) | (with_reducible refine Rd.isB ?_) | (with_reducible refine Rd.lst ?_) | (with_reducible refine Rd.tup ?_)
  | (with_reducible refine Rd.andV ?_) | (with_reducible refine Rd.orV ?_) | (with_reducible refine Rd.notV ?_) | (with_reducible refine Rd.andT ?_) | (with_reducible refine Rd.orT ?_) | (with_reducible refine Rd.chain ?_)
  | (with_reducible refine Rd.m0 ?_) | (with_reducible refine Rd.m1 ?_) | (with_reducible refine Rd.bm0 ?_) | (with_reducible refine Rd.bm ?_) | (with_reducible refine Rd.sl ?_) | (with_reducible refine Rd.part ?_) | (with_reducible refine Rd.part0 ?_) | (with_reducible refine Rd.isI ?_)
  | (with_reducible refine Rd.fmt ?_) | (with_reducible refine Rd.fmtRD ?_) | (with_reducible refine Rd.meth ?_) | (with_reducible refine makeG ?_) | (with_reducible refine Rd.prop ?_) | (with_reducible refine Rd.js ?_) | (with_reducible refine Rd.js0 ?_) | (with_reducible refine Rd.par ?_) | (with_reducible refine Rd.star ?_) | (with_reducible refine lcR1 ?_) | (with_reducible refine lcR2 ?_) | (with_reducible refine Rd.fld ?_) | (with_reducible refine Rd.sfld ?_) | (with_reducible refine Rd.expr ?_) | (with_reducible refine L2.isNR ?_) | (with_reducible refine L2.methI ?_) | (with_reducible refine Rd.forZ ?_)
  | (with_reducible refine Rd.forEA ?_) | (with_reducible refine Rd.forR1 ?_) | (with_reducible refine Rd.forR2 ?_) | (with_reducible refine Rd.forL ?_) | (with_reducible refine Rd.forT ?_)
  | (with_reducible refine Rd.call ?_) | (with_reducible refine Rd.asgG ?_) | (with_reducible refine Rd.gNm ?_) | (with_reducible refine Rd.gSb ?_) | (with_reducible refine Rd.gC ?_) | (with_reducible refine Rd.gN ?_)
  | ((with_reducible refine' Rd.var ?hv ?_); (case hv => exact rfl)) | (with_reducible refine Rd.c ?_) | (with_reducible refine Rd.i0 ?_) | (with_reducible refine Rd.neg ?_)
  | ((with_reducible refine' Rd.iC ?hc ?_); (case hc => first | (show (0 : Int) < _; decide) | exact ⟨by decide, by decide⟩ | exact ⟨by decide, by decide, by decide⟩ | exact .inl ⟨by decide, by decide⟩ | exact .inr ⟨by decide, by decide⟩ | exact .inl ⟨by omega, by omega⟩ | (show (0 : Int) < _; omega) | exact ⟨by omega, by omega⟩))
  | ((with_reducible refine' Rd.eqS ?hc ?_); (case hc => rfl)) | ((with_reducible refine' Rd.neS ?hc ?_); (case hc => rfl)))
local macro_rules | `(tactic| walk_at "rd") => `(tactic| repeat walk_at "rd1")
open TL in
theorem joinL_mem {c : Nat} {S : List Nat} : ∀ {ps : List (List Nat)}, c ∈ joinL S ps → c ∈ S ∨ ∃ p ∈ ps, c ∈ p
  | [], h => absurd h List.not_mem_nil
  | [p], h => .inr ⟨p, List.mem_singleton.mpr rfl, h⟩
  | p :: q :: r, h => by
    have h' : c ∈ p ++ (S ++ joinL S (q :: r)) := h
    rcases List.mem_append.mp h' with h | h
    · exact .inr ⟨p, List.mem_cons_self, h⟩
    · rcases List.mem_append.mp h with h | h
      · exact .inl h
      · rcases joinL_mem h with h | ⟨z, hz, h⟩
        · exact .inl h
        · exact .inr ⟨z, List.mem_cons_of_mem _ hz, h⟩
open TL in
theorem menu_signs : ∀ x ∈ menu, 40 ∉ tl x ∧ 32 ∉ tl x := by decide +kernel
open TL in
theorem tl_space : tl (" " : Str) = [32] := by decide +kernel
open TL in
theorem tl_open : tl ("(" : Str) = [40] := by decide +kernel
open TL in
theorem tl_close : tl (")" : Str) = [41] := by decide +kernel
open TL in
theorem join_signs {l : List Str} (h : Ok l) : 40 ∉ tl (Str.join " " (l ++ [Str.empty])) := by
  intro z
  rw [tl_join, tl_space] at z
  rcases joinL_mem z with z | ⟨p, hp, z⟩
  · exact absurd z (by decide)
  · obtain ⟨x, hx, rfl⟩ := List.mem_map.mp hp
    rcases List.mem_append.mp hx with hx | hx
    · exact (menu_signs x (h.all x hx)).1 z
    · rw [List.mem_singleton.mp hx] at z
      exact absurd z List.not_mem_nil
/-- what stands behind the parenthesis -/
def behindT (T : List Str) : Str := Str.join " " T ++ ")"
theorem fill_parts (L T : List Str) : fillText L T = Str.join " " (L ++ [Str.empty]) ++ "(" ++ behindT T := by
  unfold fillText behindT
  rw [jn_end, Str.empty_append, ← Str.append_assoc, ← Str.append_assoc, ← Str.append_assoc]
open TL in
theorem fill_partition {L T : List Str} (h : Ok L) : Txt.partition (fillText L T) "(" = (Str.join " " (L ++ [Str.empty]), (("(" : Str), behindT T)) := by
  rw [fill_parts]
  exact partition_app tl_open (join_signs h)
theorem small_space : (" " : Str).cps.all (· < 256) = true := by decide +kernel
open TL in
theorem lead_split {L : List Str} (h : Ok L) : Txt.split (Str.join " " (L ++ [Str.empty])) " " = L ++ [Str.empty] := by
  rw [← join_eq]
  refine split_join tl_space small_space (by simp) fun p hp => ?_
  rcases List.mem_append.mp hp with hx | hx
  · exact (menu_signs p (h.all p hx)).2
  · rw [List.mem_singleton.mp hx]
    exact List.not_mem_nil
open TL in
theorem turn_split {T : List Str} (h : Ok T) (hne : T ≠ []) : Txt.split (Str.join " " T) " " = T := by
  rw [← join_eq]
  exact split_join tl_space small_space hne fun p hp => (menu_signs p (h.all p hp)).2
open TL in
theorem cut_close (T : List Str) : cutS (behindT T) none (some (-1)) = Str.join " " T := by
  refine ext_tl ?_
  show ((behindT T).cps.toList.drop _).take _ = _
  have e : (behindT T).cps.toList = tl (Str.join " " T) ++ [41] := (tl_append _ _).trans (by rw [tl_close])
  have n : (behindT T).length = (tl (Str.join " " T)).length + 1 := by
    show (behindT T).cps.size = _
    rw [← Array.length_toList, e, List.length_append]
    rfl
  have s : HT.sIx (behindT T).length (behindT T).length (some (-1)) = (tl (Str.join " " T)).length := by
    show (if (-1 : Int) < 0 then ((-1 : Int) + ((behindT T).length : Int)).toNat else min (-1 : Int).toNat (behindT T).length) = _
    rw [if_pos (by decide), n]
    omega
  rw [s, HT.sIx_none, List.drop_zero, Nat.sub_zero, e, List.take_left]
abbrev sReadF : Stmt := topA iRead
abbrev sToldF : Stmt := topA iToldF
section
variable {P : Program} {w : World} {K : PySem.W.Frag} {mg : Str → Option Value} {base : Heap} {C f fI fE fSm fRm : Addr} {fd fdI fdS : FuncData}
abbrev nmsR : List Str := ["text", "lead", "_", "turn", "fill"]
theorem scToldF : FnScope nmsR ["text"] (defScope sToldF) := ⟨rfl, rfl, rfl, by decide +kernel, rfl, by decide +kernel, by decide +kernel⟩
theorem scRead : FnScope ["text", "fill"] ["text"] (defScope sReadF) := ⟨rfl, rfl, rfl, by decide +kernel, rfl, by decide +kernel, by decide +kernel⟩
theorem ok_toldF (F : FnP K "fill_told" sToldF f fd) (T : Fc K mg C) (MS : Ms K C fE fSm fRm) (FI : FunD K "__init__" "Fill.__init__" (defArgs sInit) (defBody sInit) (defScope sInit) [] [] fI fdI) (GI : FnOk P w K mg base CX0 3 fI fdI ["self", "lead", "turn"] (spInit K C)) (M : Mk K C fI)
    (GS : FnOk P w K mg base CX0 1 fSm fdS ["self"] (spText K C fillText)) (bS : Binds K fdS ["self"] []) (gIs : mg "isinstance" = none) (gStr : mg "str" = none) :
    FnG P w K mg base CX0 5 f fd ["text"] (spRead K C) := by
  have bI : Binds K fdI ["self", "lead", "turn"] [] := FI.bindsN fun _ _ _ _ _ _ us hl => match us, hl with | [_, _, _], _ => rfl
  refine F.okG scToldF (fun vs H Q E h => ?_) (fun cdv A outer s H vs Q E hgu hr h => ?_)
  · obtain ⟨L, U, rfl, _⟩ := h
    rfl
  · obtain ⟨L, U, rfl, nm, q⟩ := h
    have r3 := hr.mono (show 3 ≤ 4 by decide)
    refine ⟨_, PSs.nox (pss_cons (ps_asg (pe_partition (pv 0) pe_str) (pg_tup rfl (pgs_cons (pg_name (i := 1) scToldF.nd rfl (Or.inl rfl)) (pgs_cons (pg_name (i := 2) scToldF.nd rfl (Or.inl rfl)) (pgs_cons (pg_name (i := 3) scToldF.nd rfl (Or.inl rfl)) pgs_nil)))))
      (pss_cons (ps_try_thru0 (pss_one (ps_set (i := 4) scToldF.nd rfl (Or.inl rfl) (pe_make M GI hr rfl T.gC bI .nil pass0 (pa_cons (pe_slice sl_list (pe_split (pv 1) pe_str) po_none (po_some (pe_un un_neg pe_int))) (pa_cons (pe_split (pe_slice sl_str (pv 3) po_none (po_some (pe_un un_neg pe_int))) pe_str) pa_nil))))))
      (pss_one (ps_ret (pe_ifExp (pt_cmpR op_eq (pe_callTy (call_strI GS.g MS.st bS pass0 hgu r3) rfl gStr (by decide +kernel) (pa_cons (pv 4) pa_nil)) (pv 0) (nomark _)) (pv 4) pe_non))))), ?_⟩
    have d1 : (" " : Str).length = 1 := by decide +kernel
    have d2 : ("(" : Str).length = 1 := by decide +kernel
    have d3 : (")" : Str).length = 1 := by decide +kernel
    have d4 : Str.empty.length = 0 := by decide +kernel
    have l1 := nm.oL.sum
    have l2 := nm.oL.few
    have j1 := nm.oT.join
    have sm : ((L ++ [Str.empty]).map (fun x : Str => x.length)).sum ≤ 480 := by
      rw [List.map_append, List.sum_append, List.map_cons, List.map_nil, List.sum_cons, List.sum_nil, d4]
      omega
    have jl := jn_len " " (L ++ [Str.empty])
    rw [d1, List.length_append] at jl
    have jl2 : (Str.join " " (L ++ [Str.empty])).length ≤ 541 := by
      have e : ([Str.empty] : List Str).length = 1 := rfl
      omega
    have bl : (behindT U).length ≤ 541 := by
      unfold behindT
      rw [Str.length_append, d3]
      omega
    have tl : (fillText L U).length ≤ 1100 := by
      rw [fill_parts, Str.length_append, Str.length_append, d2]
      omega
    walk_at "rd"
    refine ⟨⟨_, rfl⟩, ?_⟩
    walk_at "rd"
    refine ⟨_, _, rfl, rfl, by decide +kernel, Rd.small (by omega), fun p np => ?_⟩
    rw [fill_partition nm.oL]
    have s1 := same_new (o := HO.tup [V.str (Str.join " " (L ++ [Str.empty])), V.str "(", V.str (behindT U)]) np
    have o1 := upd_same (H := H) (a := p) (o := HO.tup [V.str (Str.join " " (L ++ [Str.empty])), V.str "(", V.str (behindT U)])
    generalize upd H p (HO.tup [V.str (Str.join " " (L ++ [Str.empty])), V.str "(", V.str (behindT U)]) = H1 at s1 o1 ⊢
    refine ⟨p, _, rfl, SqT.of o1, rfl, ?_⟩
    walk_at "rd"
    refine ⟨⟨_, rfl⟩, ?_⟩
    walk_at "rd"
    refine ⟨_, _, rfl, rfl, by decide +kernel, Rd.small (by omega), fun p2 np2 => ?_⟩
    rw [lead_split nm.oL]
    have s2 := same_new (o := HO.lst ((L ++ [Str.empty]).map V.str)) np2
    have o2 := upd_same (H := H1) (a := p2) (o := HO.lst ((L ++ [Str.empty]).map V.str))
    generalize upd H1 p2 (HO.lst ((L ++ [Str.empty]).map V.str)) = H2 at s2 o2 ⊢
    walk_at "rd"
    refine Rd.slL (SqL.of o2) fun p3 H3 np3 s3 h3 => ?_
    rw [Rd.cut_front (k := L.length) (by rw [List.length_map, List.length_append]; rfl), ← List.map_take, List.take_left] at h3
    walk_at "rd"
    refine ⟨behindT U, rfl, Rd.small (by omega), ?_⟩
    rw [cut_close]
    refine ⟨⟨_, rfl⟩, ?_⟩
    walk_at "rd"
    refine ⟨_, _, rfl, rfl, by decide +kernel, Rd.small (by omega), fun p4 np4 => ?_⟩
    rw [turn_split nm.oT nm.nf.ne]
    have s4 := same_new (o := HO.lst (U.map V.str)) np4
    have o4 := upd_same (H := H3) (a := p4) (o := HO.lst (U.map V.str))
    generalize upd H3 p4 (HO.lst (U.map V.str)) = H4 at s4 o4 ⊢
    have s04 := s1.trans (s2.trans (s3.trans s4))
    walk_at "rd"
    refine mkFillG (.inl (SqL.of (s4 _ _ h3))) (.inl (SqL.of o4)) nm.oL nm.oT nm.nf.ne fun x H5 L' U' nx s5 hf n2 sq => ?_
    obtain ⟨rfl, rfl⟩ := M23.nf_one n2.nf nm.nf sq
    have s05 := s04.trans s5
    walk_at "rd"
    obtain ⟨dx, p5, q5, ha, _, _⟩ := id hf
    refine ⟨x, dx, _, rfl, ha, x, L', U', rfl, hf, nm.oL, nm.oT, fun H6 s6 => ⟨_, rfl, ?_⟩⟩
    walk_at "rd"
    refine Rd.ifB (fun _ => ?_) (fun z => ?_)
    · walk_at "rd"
      exact q x H6 (s05.trans s6) (hf.same s6)
    · simp at z
theorem ok_read (F : FnP K "read_fill" sReadF f fd) (FT : FnP K "fill_told" sToldF fI fdI) (GT : FnG P w K mg base CX0 5 fI fdI ["text"] (spRead K C)) (gT : mg "fill_told" = some (.ref fI)) (gIs : mg "isinstance" = none) (gStr : mg "str" = none) :
    FnG P w K mg base CX0 6 f fd ["text"] (spRead K C) := by
  have bT : Binds K fdI ["text"] [] := FT.bindsN fun _ _ _ _ _ _ us hl => match us, hl with | [_], _ => rfl
  refine F.okG scRead (fun vs H Q E h => ?_) (fun cdv A outer s H vs Q E hgu hr h => ?_)
  · obtain ⟨L, U, rfl, _⟩ := h
    rfl
  · obtain ⟨L, U, rfl, nm, q⟩ := h
    refine ⟨_, PSs.nox (pss_cons (ps_if (pt_not (pt_val (pe_callB call_isi rfl gIs (by decide +kernel) (pa_cons (pv 0) (pa_cons (pe_bltn rfl gStr (by decide +kernel) (v := .ty "str") rfl) pa_nil))))) (pss_one ps_never) pss_nil)
      (pss_cons (ps_set (i := 1) scRead.nd rfl (Or.inl rfl) (pe_callG GT hgu hr rfl gT FT.kp bT pass0 (pa_cons (pv 0) pa_nil)))
      (pss_cons (ps_if (pt_cmp (pc_isN (pv 1))) (pss_one ps_never) pss_nil) (pss_one (ps_ret (pv 1)))))), ?_⟩
    walk_at "rd"
    refine Rd.isi (k := true) (.base (.str _)) (by decide +kernel) ?_
    walk_at "rd"
    refine iteF ?_
    walk_at "rd"
    refine ⟨L, U, rfl, nm, fun x H1 s1 h1 => ?_⟩
    walk_at "rd"
    refine ⟨_, rfl, ?_⟩
    refine ⟨_, rfl, ?_⟩
    refine Rd.ifB (fun z => ?_) (fun _ => ?_)
    · simp at z
    walk_at "rd"
    exact q x H1 s1 h1
end
end K23

namespace K23
open PySem PySem.Spec PyProof.Rows L2
def dTop (i : Nat) (x : Str) : He.DefD := ⟨(x, none), x, x, defArgs (topA i), defBody (topA i), defScope (topA i), [], []⟩
def dMeth (j : Nat) (m : Str) : He.DefD := ⟨("Fill", some m), m, "Fill." ++ m, defArgs (sMeth j), defBody (sMeth j), defScope (sMeth j), [], []⟩
def propAt (K : PySem.W.Frag) (m : Str) : Addr := He.ma K (He.ga K "Fill") m
def getAt (m : Str) (K : PySem.W.Frag) : Addr := match PySem.W.recIn K (propAt K m) "property" with
  | some (.ref g :: _) => g
  | _ => 0
def dGet (j : Nat) (m : Str) : He.DefP := ⟨getAt m, m, "Fill." ++ m, defArgs (sMeth j), defBody (sMeth j), defScope (sMeth j)⟩
def propB (K : PySem.W.Frag) (m : Str) : Bool := He.eqO (PySem.W.findIn K (.ref (He.ga K "Fill")) m) (some (some (.ref (propAt K m)))) && (He.eqO (PySem.W.specialIn K (.ref (propAt K m)) "__get__") (some (some (.builtin "property.__get__"))) && (decide (PySem.W.takesIn K (.ref (propAt K m)) = some true) &&
  (match PySem.W.recIn K (propAt K m) "property" with
  | some (.ref g :: _) => true
  | _ => false)))
theorem prop_of {K : PySem.W.Frag} {m : Str} (h : propB K m = true) : PropOf K (He.ga K "Fill") m (propAt K m) (getAt m K) := by
  obtain ⟨a, h⟩ := He.ba h
  obtain ⟨b, h⟩ := He.ba h
  obtain ⟨c, h⟩ := He.ba h
  refine ⟨He.eqO_ok a, He.eqO_ok b, of_decide_eq_true c, ?_⟩
  unfold getAt
  cases e : PySem.W.recIn K (propAt K m) "property" with
  | none => rw [e] at h; cases h
  | some l =>
    rw [e] at h
    cases l with
    | nil => cases h
    | cons v r =>
      cases v with
      | ref g => exact ⟨r, rfl⟩
      | _ => cases h
def clsB (K : PySem.W.Frag) : Bool := (fun C => He.eqO (PySem.W.findIn K (.ref C) "__class__") (some (some (.builtin "object.__class__"))) && (He.eqO (PySem.W.specialIn K (.builtin "object.__class__") "__get__") (some (some (.builtin "getset_descriptor.__get__"))) &&
  (decide (PySem.W.takesIn K (.builtin "object.__class__") = some true) && (decide (PySem.W.mroIn K C (.type "object") = some true) && (decide (PySem.W.kitOne K (.ref C) (.ref C) = some true) && (decide (PySem.W.kitOne K (.type "tuple") (.ref C) = some false) &&
  (He.eqO (PySem.W.findIn K (.ref C) "__ne__") (some (some (.builtin "object.__ne__"))) && (PySem.W.notFirst K C (.ref C) && PySem.W.notFirst K C (.type "tuple"))))))))) (He.ga K "Fill")
def xf (K : PySem.W.Frag) : Bool := smOk K && (clsB K && (propB K "lead" && propB K "turn"))
def fn : List He.DefD := [dTop iBetween "is_between", dTop iIsList "is_list", dTop iIsName "is_name", dTop iCheck "_check_part", dTop iShort "shortest_turn", dTop iMany "many_in_turn", dTop iMoved "moved_on", dTop iNf "normal_form", dTop iTold "told_at", dTop iRead "read_fill", dTop iToldF "fill_told", dTop iPot "_law_pot", dTop iDraw "_law_draw", dTop iPick "_law_pick", dTop iTaken "_law_taken", dTop iNormal "_law_normal", dTop iAt "_law_at", dTop iBehind "_law_behind", dTop iText "_law_text", dTop iIs "_law_is", dTop iNames "_law_names_right", dTop iDrawn "_law_drawn", dTop iRight "_law_right", dTop iLaw "law", dMeth 0 "__init__", dMeth 4 "kind_at", dMeth 5 "first", dMeth 6 "behind", dMeth 7 "__eq__", dMeth 8 "__str__", dMeth 9 "__repr__"]
def fp : List He.DefP := [dGet 2 "lead", dGet 3 "turn"]
def ts : List He.Tab := [(fun K => He.ga K "RESERVED", reserved)]
def fa : List He.Fa := [.glo "is_between", .glo "is_list", .glo "is_name", .glo "_check_part", .glo "shortest_turn", .glo "many_in_turn", .glo "moved_on", .glo "normal_form", .glo "told_at", .glo "read_fill", .glo "fill_told", .glo "_law_pot", .glo "_law_draw", .glo "_law_pick", .glo "_law_taken", .glo "_law_normal", .glo "_law_at", .glo "_law_behind", .glo "_law_text", .glo "_law_is", .glo "_law_names_right", .glo "_law_drawn", .glo "_law_right", .glo "law", .glo "RESERVED", .int "LONGEST_NAME" 8, .int "LAST_ROW" (10 ^ 60), .int "MOST_FIRST" 2000, .glo "Fill", .cls "Fill", .noat "Fill" "_lead", .noat "Fill" "_turn", .mkr "Fill", .meth "Fill" "kind_at", .meth "Fill" "first", .meth "Fill" "behind", .meth "Fill" "__eq__", .meth "Fill" "__str__", .meth "Fill" "__repr__", .free "len", .free "abs", .free "max", .free "min", .free "int", .free "divmod", .free "isinstance", .free "bool", .free "list", .free "tuple", .free "str", .free "repr", .free "enumerate", .free "range", .free "all"]
abbrev R : PySem.W.OpenRow := PySem.W.OpenLaw.row PySem.Challenge.rw_belowneeds_k23_whole_fills
abbrev hk : PySem.W.Hook := He.hookW 6 xf fa fn fp ts
def ob (s : PySem.W.SharedT) : He.AlW := He.obsWG 6 xf fa fn fp ts (HandSHeadRun.getT s)
theorem ob_eq (s : PySem.W.SharedT) : ob s = hk.obs s.abs := He.obsWG_eq (HandSHeadRun.getT_eq s)
def loose : List Str := (["LONGEST_NAME", "RESERVED", "is_between", "is_list", "is_name", "SheetError", "InvalidFill", "InvalidRow", "InvalidCount", "InvalidText", "shortest_turn", "many_in_turn", "moved_on", "normal_form", "told_at", "LAST_ROW", "MOST_FIRST", "Fill"] : List Str) ++ (["_check_part", "read_fill", "fill_told", "_law_pot", "_law_draw", "_law_pick", "_law_taken", "_law_normal", "_law_at", "_law_behind", "_law_text", "_law_is", "_law_names_right", "_law_drawn", "_law_right"] : List Str)
abbrev topI : Nat := 39
def row : String := "special-get-raises"
theorem run_f (w : World) : HandSHeadRun.RunEq R (PySem.W.view R.prog [topI]) hk ob 12000 loose (w.withFollow row false) := by
  intro os
  kernel_rfl
theorem run_t (w : World) : HandSHeadRun.RunEq R (PySem.W.view R.prog [topI]) hk ob 12000 loose (w.withFollow row true) := by
  intro os
  kernel_rfl
theorem run (w : World) : HandSHeadRun.RunEq R (PySem.W.view R.prog [topI]) hk ob 12000 loose w := PySem.W.byRow2 row (P := fun w => HandSHeadRun.RunEq R (PySem.W.view R.prog [topI]) hk ob 12000 loose w) run_f run_t w
end K23

namespace K23
open PySem PySem.Spec PyProof.Rows L2
theorem facts {P : Program} {w : World} {K : PySem.W.Frag} {h : Heap} {mg : Str → Option Value} {f : Addr} (X : K.In h) (G : h.Ns mainGlobals mg) (hfa : mg ("law" : Str) = some (.ref f)) (c : He.SaysW xf fa fn fp ts w K) :
    ∃ fd : FuncData, (∀ (s : Shared) (v : Value), BindsTo s fd ⟨[v], []⟩ [("_law_script", v)]) ∧ ∀ base : Heap, K.In base → base.Ns mainGlobals mg → FnG P w K mg base CX0 10 f fd ["_law_script"] (spLaw K) := by
  have cx := c.x
  have cd := c.d
  obtain ⟨dLead, FLead⟩ := c.def_ 0 (d := dGet 2 "lead") rfl
  obtain ⟨dTurn, FTurn⟩ := c.def_ 1 (d := dGet 3 "turn") rfl
  obtain ⟨sm, cx⟩ := He.ba cx
  obtain ⟨cb, cx⟩ := He.ba cx
  obtain ⟨pl, pt⟩ := He.ba cx
  have pLead := prop_of pl
  have pTurn := prop_of pt
  obtain ⟨hcl, cb⟩ := He.ba cb
  obtain ⟨hgt, cb⟩ := He.ba cb
  obtain ⟨htk, cb⟩ := He.ba cb
  obtain ⟨hmo, cb⟩ := He.ba cb
  obtain ⟨k1, cb⟩ := He.ba cb
  obtain ⟨k0, cb⟩ := He.ba cb
  obtain ⟨hne, cb⟩ := He.ba cb
  obtain ⟨n1, n2⟩ := He.ba cb
  obtain ⟨dBetween, FBetween⟩ := cd.def_ 0 (d := dTop iBetween "is_between") rfl
  have gBetween := He.glo_ok X G (cd.fact 0 (f := .glo "is_between") rfl)
  obtain ⟨dIsList, FIsList⟩ := cd.def_ 1 (d := dTop iIsList "is_list") rfl
  have gIsList := He.glo_ok X G (cd.fact 1 (f := .glo "is_list") rfl)
  obtain ⟨dIsName, FIsName⟩ := cd.def_ 2 (d := dTop iIsName "is_name") rfl
  have gIsName := He.glo_ok X G (cd.fact 2 (f := .glo "is_name") rfl)
  obtain ⟨dCheck, FCheck⟩ := cd.def_ 3 (d := dTop iCheck "_check_part") rfl
  have gCheck := He.glo_ok X G (cd.fact 3 (f := .glo "_check_part") rfl)
  obtain ⟨dShort, FShort⟩ := cd.def_ 4 (d := dTop iShort "shortest_turn") rfl
  have gShort := He.glo_ok X G (cd.fact 4 (f := .glo "shortest_turn") rfl)
  obtain ⟨dMany, FMany⟩ := cd.def_ 5 (d := dTop iMany "many_in_turn") rfl
  have gMany := He.glo_ok X G (cd.fact 5 (f := .glo "many_in_turn") rfl)
  obtain ⟨dMoved, FMoved⟩ := cd.def_ 6 (d := dTop iMoved "moved_on") rfl
  have gMoved := He.glo_ok X G (cd.fact 6 (f := .glo "moved_on") rfl)
  obtain ⟨dNf, FNf⟩ := cd.def_ 7 (d := dTop iNf "normal_form") rfl
  have gNf := He.glo_ok X G (cd.fact 7 (f := .glo "normal_form") rfl)
  obtain ⟨dTold, FTold⟩ := cd.def_ 8 (d := dTop iTold "told_at") rfl
  have gTold := He.glo_ok X G (cd.fact 8 (f := .glo "told_at") rfl)
  obtain ⟨dRead, FRead⟩ := cd.def_ 9 (d := dTop iRead "read_fill") rfl
  have gRead := He.glo_ok X G (cd.fact 9 (f := .glo "read_fill") rfl)
  obtain ⟨dToldF, FToldF⟩ := cd.def_ 10 (d := dTop iToldF "fill_told") rfl
  have gToldF := He.glo_ok X G (cd.fact 10 (f := .glo "fill_told") rfl)
  obtain ⟨dPot, FPot⟩ := cd.def_ 11 (d := dTop iPot "_law_pot") rfl
  have gPot := He.glo_ok X G (cd.fact 11 (f := .glo "_law_pot") rfl)
  obtain ⟨dDraw, FDraw⟩ := cd.def_ 12 (d := dTop iDraw "_law_draw") rfl
  have gDraw := He.glo_ok X G (cd.fact 12 (f := .glo "_law_draw") rfl)
  obtain ⟨dPick, FPick⟩ := cd.def_ 13 (d := dTop iPick "_law_pick") rfl
  have gPick := He.glo_ok X G (cd.fact 13 (f := .glo "_law_pick") rfl)
  obtain ⟨dTaken, FTaken⟩ := cd.def_ 14 (d := dTop iTaken "_law_taken") rfl
  have gTaken := He.glo_ok X G (cd.fact 14 (f := .glo "_law_taken") rfl)
  obtain ⟨dNormal, FNormal⟩ := cd.def_ 15 (d := dTop iNormal "_law_normal") rfl
  have gNormal := He.glo_ok X G (cd.fact 15 (f := .glo "_law_normal") rfl)
  obtain ⟨dAt, FAt⟩ := cd.def_ 16 (d := dTop iAt "_law_at") rfl
  have gAt := He.glo_ok X G (cd.fact 16 (f := .glo "_law_at") rfl)
  obtain ⟨dBehind, FBehind⟩ := cd.def_ 17 (d := dTop iBehind "_law_behind") rfl
  have gBehind := He.glo_ok X G (cd.fact 17 (f := .glo "_law_behind") rfl)
  obtain ⟨dText, FText⟩ := cd.def_ 18 (d := dTop iText "_law_text") rfl
  have gText := He.glo_ok X G (cd.fact 18 (f := .glo "_law_text") rfl)
  obtain ⟨dIs, FIs⟩ := cd.def_ 19 (d := dTop iIs "_law_is") rfl
  have gIs := He.glo_ok X G (cd.fact 19 (f := .glo "_law_is") rfl)
  obtain ⟨dNames, FNames⟩ := cd.def_ 20 (d := dTop iNames "_law_names_right") rfl
  have gNames := He.glo_ok X G (cd.fact 20 (f := .glo "_law_names_right") rfl)
  obtain ⟨dDrawn, FDrawn⟩ := cd.def_ 21 (d := dTop iDrawn "_law_drawn") rfl
  have gDrawn := He.glo_ok X G (cd.fact 21 (f := .glo "_law_drawn") rfl)
  obtain ⟨dRight, FRight⟩ := cd.def_ 22 (d := dTop iRight "_law_right") rfl
  have gRight := He.glo_ok X G (cd.fact 22 (f := .glo "_law_right") rfl)
  obtain ⟨dLaw, FLaw⟩ := cd.def_ 23 (d := dTop iLaw "law") rfl
  obtain ⟨dInit, FInit⟩ := cd.def_ 24 (d := dMeth 0 "__init__") rfl
  obtain ⟨dKind, FKind⟩ := cd.def_ 25 (d := dMeth 4 "kind_at") rfl
  obtain ⟨dFirst, FFirst⟩ := cd.def_ 26 (d := dMeth 5 "first") rfl
  obtain ⟨dBehindM, FBehindM⟩ := cd.def_ 27 (d := dMeth 6 "behind") rfl
  obtain ⟨dEqM, FEqM⟩ := cd.def_ 28 (d := dMeth 7 "__eq__") rfl
  obtain ⟨dStrM, FStrM⟩ := cd.def_ 29 (d := dMeth 8 "__str__") rfl
  obtain ⟨dReprM, FReprM⟩ := cd.def_ 30 (d := dMeth 9 "__repr__") rfl
  have gRes := He.glo_ok X G (cd.fact 24 (f := .glo "RESERVED") rfl)
  have ln := He.int_ok X G (cd.fact 25 (f := .int "LONGEST_NAME" 8) rfl)
  have lr := He.int_ok X G (cd.fact 26 (f := .int "LAST_ROW" (10 ^ 60)) rfl)
  have mf := He.int_ok X G (cd.fact 27 (f := .int "MOST_FIRST" 2000) rfl)
  have gFill := He.glo_ok X G (cd.fact 28 (f := .glo "Fill") rfl)
  have cls := He.cls_ok (cd.fact 29 (f := .cls "Fill") rfl)
  have nL := He.noat_ok (cd.fact 30 (f := .noat "Fill" "_lead") rfl)
  have nT := He.noat_ok (cd.fact 31 (f := .noat "Fill" "_turn") rfl)
  have mk := He.mkr_ok (cd.fact 32 (f := .mkr "Fill") rfl)
  have mKind := He.meth_ok (cd.fact 33 (f := .meth "Fill" "kind_at") rfl)
  have mFirst := He.meth_ok (cd.fact 34 (f := .meth "Fill" "first") rfl)
  have mBehindM := He.meth_ok (cd.fact 35 (f := .meth "Fill" "behind") rfl)
  have mEqM := He.meth_ok (cd.fact 36 (f := .meth "Fill" "__eq__") rfl)
  have mStrM := He.meth_ok (cd.fact 37 (f := .meth "Fill" "__str__") rfl)
  have mReprM := He.meth_ok (cd.fact 38 (f := .meth "Fill" "__repr__") rfl)
  have b_len : mg "len" = none := He.free_ok X G (cd.fact 39 (f := .free "len") rfl)
  have b_abs : mg "abs" = none := He.free_ok X G (cd.fact 40 (f := .free "abs") rfl)
  have b_max : mg "max" = none := He.free_ok X G (cd.fact 41 (f := .free "max") rfl)
  have b_min : mg "min" = none := He.free_ok X G (cd.fact 42 (f := .free "min") rfl)
  have b_int : mg "int" = none := He.free_ok X G (cd.fact 43 (f := .free "int") rfl)
  have b_divmod : mg "divmod" = none := He.free_ok X G (cd.fact 44 (f := .free "divmod") rfl)
  have b_isinstance : mg "isinstance" = none := He.free_ok X G (cd.fact 45 (f := .free "isinstance") rfl)
  have b_bool : mg "bool" = none := He.free_ok X G (cd.fact 46 (f := .free "bool") rfl)
  have b_list : mg "list" = none := He.free_ok X G (cd.fact 47 (f := .free "list") rfl)
  have b_tuple : mg "tuple" = none := He.free_ok X G (cd.fact 48 (f := .free "tuple") rfl)
  have b_str : mg "str" = none := He.free_ok X G (cd.fact 49 (f := .free "str") rfl)
  have b_repr : mg "repr" = none := He.free_ok X G (cd.fact 50 (f := .free "repr") rfl)
  have b_enumerate : mg "enumerate" = none := He.free_ok X G (cd.fact 51 (f := .free "enumerate") rfl)
  have b_range : mg "range" = none := He.free_ok X G (cd.fact 52 (f := .free "range") rfl)
  have b_all : mg "all" = none := He.free_ok X G (cd.fact 53 (f := .free "all") rfl)
  have e := hfa.symm.trans (He.glo_ok X G (cd.fact 23 (f := .glo "law") rfl))
  cases e
  have T : Fc K mg (He.ga K "Fill") := ⟨cls, nL, nT, gFill, He.eqO_ok hcl, He.eqO_ok hgt, of_decide_eq_true htk, of_decide_eq_true hmo, of_decide_eq_true k1, of_decide_eq_true k0⟩
  have M : Ms K (He.ga K "Fill") _ _ _ := ⟨⟨mEqM.at_, mEqM.fn⟩, ⟨mStrM.at_, mStrM.fn⟩, ⟨mReprM.at_, mReprM.fn⟩, He.eqO_ok hne, n1, n2⟩
  obtain ⟨rsD, rsM⟩ := c.tab 0 (t := (fun K => He.ga K "RESERVED", reserved)) rfl
  have gs : Gs K mg := ⟨ln, lr, mf⟩
  have rsv : Rs K w mg := ⟨⟨_, gRes, rsD, rsM⟩⟩
  have b := FunD.bindsA (ps := ["_law_script"]) FLaw fun _ _ _ _ _ _ us hl => match us, hl with | [_], _ => rfl
  have bLead : Binds K dLead ["self"] [] := FLead.bindsN fun _ _ _ _ _ _ us hl => match us, hl with | [_], _ => rfl
  have bTurn : Binds K dTurn ["self"] [] := FTurn.bindsN fun _ _ _ _ _ _ us hl => match us, hl with | [_], _ => rfl
  have bEq : Binds K dEqM ["self", "other"] [] := FEqM.bindsN fun _ _ _ _ _ _ us hl => match us, hl with | [_, _], _ => rfl
  have bStr : Binds K dStrM ["self"] [] := FStrM.bindsN fun _ _ _ _ _ _ us hl => match us, hl with | [_], _ => rfl
  have bRepr : Binds K dReprM ["self"] [] := FReprM.bindsN fun _ _ _ _ _ _ us hl => match us, hl with | [_], _ => rfl
  have bKind : Binds K dKind ["self", "row"] [] := FKind.bindsN fun _ _ _ _ _ _ us hl => match us, hl with | [_, _], _ => rfl
  have bFirst : Binds K dFirst ["self", "many"] [] := FFirst.bindsN fun _ _ _ _ _ _ us hl => match us, hl with | [_, _], _ => rfl
  have bBehindM : Binds K dBehindM ["self", "many"] [] := FBehindM.bindsN fun _ _ _ _ _ _ us hl => match us, hl with | [_, _], _ => rfl
  have bRead : Binds K dRead ["text"] [] := FRead.bindsN fun _ _ _ _ _ _ us hl => match us, hl with | [_], _ => rfl
  refine ⟨dLaw, fun s v => b s [v] rfl, fun base _ _ => ?_⟩
  have GBetween := ok_between (P := P) (w := w) (mg := mg) (base := base) FBetween b_isinstance b_int b_bool
  have GIsList := ok_isList (P := P) (w := w) (mg := mg) (base := base) FIsList b_isinstance b_list b_tuple
  have GIsName := ok_isName (P := P) (w := w) (mg := mg) (base := base) FIsName gs rsv b_isinstance b_str b_len
  have GCheck := ok_check (P := P) (w := w) (mg := mg) (base := base) FCheck FIsList FIsName GIsList GIsName gIsList gIsName b_len b_enumerate
  have GShort := ok_short (P := P) (w := w) (mg := mg) (base := base) FShort b_len b_range
  have GMany := ok_many (P := P) (w := w) (mg := mg) (base := base) FMany b_len
  have GMoved := ok_moved (P := P) (w := w) (mg := mg) (base := base) FMoved b_len
  have GNf := ok_nf (P := P) (w := w) (mg := mg) (base := base) FNf FShort FMany FMoved GShort GMany GMoved gShort gMany gMoved b_len
  have GTold := ok_told (P := P) (w := w) (mg := mg) (base := base) FTold b_len
  have GInit := ok_init (P := P) (w := w) (mg := mg) (base := base) FInit T FCheck FNf GCheck GNf gCheck gNf b_tuple
  have GLead := ok_lead (P := P) (w := w) (mg := mg) (base := base) FLead T
  have GTurn := ok_turn (P := P) (w := w) (mg := mg) (base := base) FTurn T
  have GKind := ok_kind (P := P) (w := w) (mg := mg) (base := base) FKind T gs FBetween GBetween gBetween FTold GTold gTold
  have GFirst := ok_first (P := P) (w := w) (mg := mg) (base := base) FFirst T gs FBetween GBetween gBetween FKind GKind mKind b_range
  have GBehindM := ok_behindM (P := P) (w := w) (mg := mg) (base := base) FBehindM T gs FBetween GBetween gBetween FInit GInit mk FMoved GMoved gMoved b_len
  have GEqM := ok_eqM (P := P) (w := w) (mg := mg) (base := base) FEqM T b_isinstance
  have GStrM := ok_strM (P := P) (w := w) (mg := mg) (base := base) FStrM T
  have GReprM := ok_reprM (P := P) (w := w) (mg := mg) (base := base) FReprM T sm
  have GToldF := ok_toldF (P := P) (w := w) (mg := mg) (base := base) FToldF T M FInit GInit mk GStrM bStr b_isinstance b_str
  have GRead := ok_read (P := P) (w := w) (mg := mg) (base := base) FRead FToldF GToldF gToldF b_isinstance b_str
  have GPot := ok_pot (P := P) (w := w) (mg := mg) (base := base) FPot b_len b_abs b_max b_int
  have GDraw := ok_draw (P := P) (w := w) (mg := mg) (base := base) FDraw b_divmod b_int
  have GPick := ok_pick (P := P) (w := w) (mg := mg) (base := base) FPick FDraw gDraw b_len b_divmod b_int
  have GTaken := ok_taken (P := P) (w := w) (mg := mg) (base := base) FTaken FDraw GDraw gDraw b_len b_list b_range
  have GNormal := ok_normal (P := P) (w := w) (mg := mg) (base := base) FNormal b_len b_list b_tuple b_range
  have GAt := ok_at (P := P) (w := w) (mg := mg) (base := base) FAt b_len b_int
  have GBehind := ok_behindL (P := P) (w := w) (mg := mg) (base := base) FBehind FNormal GNormal gNormal b_len b_int
  have GText := ok_text (P := P) (w := w) (mg := mg) (base := base) FText b_list
  have GIs := ok_is (P := P) (w := w) (mg := mg) (base := base) (lv := 3) FIs T M FText GText gText GLead bLead pLead GTurn bTurn pTurn GEqM bEq GStrM bStr GReprM bRepr GRead bRead FRead.kp gRead b_repr b_str sm
  have GNames := ok_names (P := P) (w := w) (mg := mg) (base := base) (lv := 2) FNames T FDraw GDraw gDraw GKind bKind mKind GFirst bFirst mFirst GBehindM bBehindM mBehindM FAt GAt gAt FBehind GBehind gBehind FIs GIs gIs b_repr b_len b_range sm
  have GDrawn := ok_drawn (P := P) (w := w) (mg := mg) (base := base) FDrawn FDraw GDraw gDraw FPick GPick gPick b_range
  have GRight := ok_right (P := P) (w := w) (mg := mg) (base := base) (lv := 2) FRight T M FTaken GTaken gTaken FDrawn GDrawn gDrawn FDraw GDraw gDraw FNormal GNormal gNormal FIs GIs gIs FNames GNames gNames FInit GInit mk GEqM bEq b_list b_tuple
  exact ok_law (P := P) (w := w) (mg := mg) (base := base) (lv := 2) FLaw FPot FRight GPot GRight gPot gRight b_range b_max b_min b_len
end K23
open PySem PySem.W PySem.Calls PyProof.Rows
theorem PySem.Challenge.cw_belowneeds_k23_whole_fills_holds : PySem.Challenge.rw_belowneeds_k23_whole_fills.Holds := by
  w_on; o_law
  refine HandSHeadRun.head_any (r := OpenLaw.row PySem.Challenge.rw_belowneeds_k23_whole_fills) (q := view (OpenLaw.row PySem.Challenge.rw_belowneeds_k23_whole_fills).prog [K23.topI]) (H := K23.hk) (ob := K23.ob) (M := 12000) (loose := K23.loose)
    (d := HandSHeadRun.topDef (OpenLaw.row PySem.Challenge.rw_belowneeds_k23_whole_fills).prog K23.topI) (kwd := []) K23.ob_eq
    (by kernel_rfl) (fun s => by kernel_rfl) K23.run (by kernel_rfl) (by kernel_rfl) (by kernel_rfl) (by rfl) (by first | assumption | decide +kernel) (by decide +kernel) ⟨rfl, rfl, rfl, rfl, rfl, by decide +kernel⟩ ?hw ?hc
  case hw => w_witness2
  case hc =>
    refine L2.walk_ofG (l := PySem.Challenge.rw_belowneeds_k23_whole_fills) (n := 63) (k := 10) (x := "_law_script") (CX := L2.CX0) rfl (by decide) (by kernel_rfl) ⟨rfl, by decide, by decide⟩ ?F (fun _ _ _ _ z => z)
    intro w mg fa h Y G hmg0
    obtain ⟨K, KX, c⟩ := Y
    have hmg : mg ("law" : PySem.Str) = some (.ref fa) := by
      have e : (HandSHeadRun.topDef (OpenLaw.row PySem.Challenge.rw_belowneeds_k23_whole_fills).prog K23.topI).name = ("law" : PySem.Str) := by kernel_rfl
      rw [← e]
      exact hmg0
    obtain ⟨fd, hb, hF⟩ := K23.facts (P := (PySem.Challenge.rw_belowneeds_k23_whole_fills).prog) (w := w) KX G hmg c
    exact ⟨K, fd, K23.spLaw K, KX, hb, fun H a ns hl hS => ⟨a, ns, rfl, hS, hl, fun _ => rfl⟩, hF⟩
