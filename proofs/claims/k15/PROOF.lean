import PyProof.Rows.All
import Wide.All
import OpenK.AllK
import Wide.FinOn
import HandS.ForExc
import HandS.ExcInit
import HandS.ExcValue
import KE.KExcInit
import KE.KExcIs
import HandS.ForMost
import HandS.HeadHook2
import HandS.HeadEnd
import HandS.Defaults
import HandS.Head0
import HandS.Head1
import HandS.Head2
import HandS.TryMany
import HandS.Dict
import HandS.Walk
import HandS.Deep
import PySem.Challenge.RW_belowneeds_k15_errors_created
set_option Elab.async false
set_option linter.all false
set_option maxRecDepth 100000
set_option maxHeartbeats 0
/-! Own exception classes over ValueError, LookupError, RuntimeError or ArithmeticError whose __init__ stores fields: how one is made (by place, by keyword), raised, read, asked for its class. -/
namespace PySem.Xk
open PySem.HandSPX Builtin Builtin.ObjectAttr
/-- the class object at C: over the chain bmB, made by newId -/
structure At (h : Heap) (C : Addr) (newId : String) (bmB : List Value) where
  (n m : Str) (ns : Addr) (bs up : List Value) (dct : Bool) (sl : List Str) (sb : List Value) (ab : Bool) (cl : Option Bool) (dl : Option Addr) (x0 x1 x2 x3 x5 : Option Value)
  obj : h.get? C = some (excClassObj n m C ns bs up dct sl sb ab cl dl x0 x1 x2 x3 x5 newId)
  tail : ∀ X : String, up.contains (.type X) = bmB.contains (.type X)
/-- the heap behind the making: the arguments' tuple, the instance -/
abbrev made (h : Heap) (C : Addr) (us : List Value) : Heap := (h.push (W.kdv_tup us)).push (excO C h.objs.size)
theorem made_old {h : Heap} {C : Addr} {us : List Value} (b : Addr) (o : Obj) (e : h.get? b = some o) : (made h C us).get? b = some o := Heap.get?_push_of_some _ (Heap.get?_push_of_some _ e)
theorem made_new {h : Heap} {C : Addr} {us : List Value} : (made h C us).get? (h.objs.size + 1) = some (excO C h.objs.size) := by heap_get
section
variable {B newId initId : String} {bmB us : List Value} {kw : List (Str × Value)} {C f : Addr} {h : Heap} {gs : Array GenState} {dr : Drawn} {n : Nat} {os : OsState} {P : Program} {w : World} {A : Around} {Z : Value → Shared → Prop} {R : Result → Shared → Prop}
theorem At.known (c : At h C newId bmB) {X : String} {b : Bool} (e : bmB.contains (.type X) = b) : (Value.ref C :: c.up).contains (.type X) = b := by
  rw [List.contains_cons, c.tail, e]
  rfl
/-- newId may be called on C -/
theorem mayMake {M : Model} {Q : Unit → Shared → Prop} (F : ExcBaseFacts B newId initId bmB) (c : At h C newId bmB) (q : Q () ⟨h, gs, dr, n, os⟩) : wpAny M A (checkBuiltinCall newId ⟨.ref C :: us, kw⟩) Q Z ⟨h, gs, dr, n, os⟩ := by
  have o := c.obj
  have isB := c.known F.hasB
  have star := F.noStar
  simp only [checkBuiltinCall, F.newRow, F.newKind, F.newSplit]
  repeat first
    | refine wpAny_loadPart_at o ?_
    | refine wpAny_isSubtype_exc o ?_; rw [isB]
    | refine wpAny_staticBase_exc o ?_
    | refine wpAny_madeBy_exc o ?_
    | simp only [if_false, bne_self_eq_false, Bool.false_eq_true]
    | wp_step
  exact q
/-- what newId makes; keywords are let be -/
theorem make (F : ExcBaseFacts B newId initId bmB) (c : At h C newId bmB) (z : us.length ≤ sizeLine) (q : R (.ok (.ret (.ref (h.objs.size + 1)))) ⟨made h C us, gs, dr, n, os⟩) :
    codeAny (model P w) A (.builtin newId ⟨.ref C :: us, kw⟩) R ⟨h, gs, dr, n, os⟩ := by
  have ends := F.ends
  have o := c.obj
  have isB := c.known F.hasB
  have notA := c.known F.noAttr
  have notN := c.known F.noName
  refine codeAny_builtinAt F.entry ?_
  unfold Builtin.«BaseException.__new__»
  refine wpAt_bind (show wpAt _ _ _ (stack >>= _) _ _ _ from wpAt_bind (wpAt_stack fun _ _ => wpAt_of_wpAny ?_))
  wp_walk
  refine wpAt_of_wpAny ?_
  rw [F.owner]
  repeat first
    | with_reducible refine wpAny_madeHere_exc F.canon o ?_
    | with_reducible refine wpAny_loadPart_at o ?_
    | with_reducible refine wpAny_isSubtype_exc o ?_; first | rw [isB] | rw [notA] | rw [notN]
    | wp_step
  show R _ _
  rw [Heap.size_push]
  exact q
/-- type.__call__ on C: made, then its __init__ at f -/
theorem byType {Q : Fin → Shared → Prop} (F : ExcBaseFacts B newId initId bmB) (c : At h C newId bmB) (i : W.Looks (model P w) h (typeLookup (.ref C) "__init__") (some (.ref f))) (m : ∀ x, W.Looks (model P w) h (bindSpecial (.ref f) x) (.ref f, [x])) (z : us.length ≤ sizeLine)
    (q : codeAny (model P w) A (.call (.ref f) ⟨.ref (h.objs.size + 1) :: us, kw⟩) (fun r s => match r with | .ok (.ret v) => v = .none ∧ Q (.done (.ret (.ref (h.objs.size + 1)))) s | .ok _ => False | .error e => Z e s) ⟨made h C us, gs, dr, n, os⟩) :
    wpAny (model P w) A (Builtin.«type.__call__» ⟨.ref C :: us, kw⟩) Q Z ⟨h, gs, dr, n, os⟩ := by
  have o := c.obj
  repeat first
    | with_reducible refine wpAny_loadPart_at o ?_
    | with_reducible refine wpAny_madeBy_exc o ?_
    | wp_step
  refine codeAny_call_builtin_code (Code.quiet_builtin _ F.quiet) (mayMake F c (make F c z ?_))
  show wpAny _ _ _ _ _ _
  have o' := made_old (us := us) (C := C) _ _ o
  have own : (Value.ref C :: c.up).contains (.ref C) = true := by simp
  have i' := i.keeps (made_old (us := us) (C := C))
  have m' := (m (.ref (h.objs.size + 1))).keeps (made_old (us := us) (C := C))
  unfold isInstance
  repeat first
    | with_reducible refine wpAny_loadPart_at made_new ?_
    | with_reducible refine wpAny_isSubtype_exc o' ?_; rw [own]
    | wp_step
  refine (show wpAny _ _ (typeLookup (.ref C) _) _ _ _ from i'.at (wpAny_holding (wpAny_bind (m'.at (wpAny_bind (wpAny_call (codeAny_mono q fun r s y => ?_)))))))
  match r, y with
  | .error _, y => exact y
  | .ok (.ret _), ⟨rfl, y⟩ =>
    first
      | exact wpAny_pure (wpAny_pure y)
      | wp_walk; exact y
/-- C called, with keywords or without -/
theorem called (F : ExcBaseFacts B newId initId bmB) (c : At h C newId bmB) (i : W.Looks (model P w) h (typeLookup (.ref C) "__init__") (some (.ref f))) (m : ∀ x, W.Looks (model P w) h (bindSpecial (.ref f) x) (.ref f, [x])) (z : us.length ≤ sizeLine)
    (q : codeAny (model P w) (A.under (.builtin "type.__call__" ⟨.ref C :: us, kw⟩)) (.call (.ref f) ⟨.ref (h.objs.size + 1) :: us, kw⟩) (W.InitBack (h.objs.size + 1) R) ⟨made h C us, gs, dr, n, os⟩) :
    codeAny (model P w) A (.call (.ref C) ⟨us, kw⟩) R ⟨h, gs, dr, n, os⟩ := by
  have o := c.obj
  have l := tc_lookup
  have b := tc_bind (.ref C)
  have ty : Shared.TypeIs ⟨h, gs, dr, n, os⟩ (.ref C) "type" := ⟨_, o, rfl⟩
  refine codeAny_of_tree (show wpAny _ _ (callAny (.ref C) _) _ _ _ from ?_)
  repeat any_goals first
    | assumption
    | with_reducible refine wpAny_loadPart_at o ?_
    | wp_step
  refine ⟨rfl, codeAny_call_builtin_at (Code.quiet_builtin _ (by decide +kernel)) entry_typeCall ?_⟩
  have may : ∀ {Q : Unit → Shared → Prop} {G : Around} {Y : Value → Shared → Prop}, Q () ⟨h, gs, dr, n, os⟩ → wpAny (model P w) G (checkBuiltinCall "type.__call__" ⟨.ref C :: us, kw⟩) Q Y ⟨h, gs, dr, n, os⟩ := fun {Q G Y} y => by
    have sub := tc_sub
    simp only [checkBuiltinCall, tc_split, tc_kind]
    repeat any_goals first
      | assumption
      | with_reducible refine wpAny_loadPart_at o ?_
      | with_reducible refine wpAny_onRaise ?_
      | with_reducible refine wpAny_map ?_
      | wp_step
  refine may (byType F c i m z (codeAny_mono q fun r s y => ?_))
  match r, y with
  | .error _, y => exact y
  | .ok (.ret _), y => exact y
end
end PySem.Xk

namespace PySem.Xk
open PySem.W PySem.Calls PyProof.Rows PySem.HandSPX Builtin Builtin.ObjectAttr
section
variable {P : Program} {w : World} {A : Around} {R : Result → Shared → Prop} {h : Heap} {gs : Array GenState} {dr : Drawn} {n : Nat} {os : OsState} {B : String} {bmB : List Value} {K : W.Frag} {f : Str} {k : Tok} {v : Value} {x C d : Addr} {fv : Array Value}
/-- what a store into the own dict comes back with -/
abbrev Back (P : Program) (w : World) (A : Around) (R : Result → Shared → Prop) : Fin → Shared → Prop := fun fin s' => match fin with
  | .done r => R (.ok r) s'
  | .again c => c.quiet = true ∧ codeAny (model P w) A c R s'
/-- object.__setattr__ on an instance comes to its own dict -/
theorem toOwn {ox : Obj} {od : Option Obj} (S : StoreFacts B bmB "object.__setattr__" "object") (X : K.In h) (I : InstAt h x ox C od) (over : excOver K C bmB = true) (dct : hasDictIn K C = true) (no : W.findIn K (.ref C) f = some none)
    (q : ∀ cd : ClassData, cd.hasDict = true → W.Looks (model P w) h (classData C) cd → ∀ b : Bool, wpAny (model P w) A.in1 (storeInOwnDict (.ref x) (.ref C) (.str f k) f v b) (Back P w A R) (fun e s => R (.error e) s) ⟨h, gs, dr, n, os⟩) :
    codeAny (model P w) A (.call (.builtin "object.__setattr__") ⟨[.ref x, .str f k, v], []⟩) R ⟨h, gs, dr, n, os⟩ := by
  obtain ⟨cd, e, dct⟩ := any_some dct
  exact osa_openX S X I over (L2.NoAttr.taker no) fun b => q cd dct (W.looks_clsIn X e) b
/-- the first field: a dict is made for it -/
theorem putFirst (S : StoreFacts B bmB "object.__setattr__" "object") (X : K.In h) (ex : h.get? x = some { cls := .ref C, data := .fields fv }) (over : excOver K C bmB = true) (dct : hasDictIn K C = true) (no : W.findIn K (.ref C) f = some none)
    (q : ∀ (G : Heap) (m : Nat) (d : Addr), h.objs.size ≤ d → d ≠ x → (∀ b o, b ≠ x → h.get? b = some o → G.get? b = some o) → G.get? x = some { cls := .ref C, dict := some d, data := .fields fv } → G.Ns1 d (fun y => if y = f then some v else none) → R (.ok (.ret .none)) ⟨G, gs, dr, m, os⟩) :
    codeAny (model P w) A (.call (.builtin "object.__setattr__") ⟨[.ref x, .str f k, v], []⟩) R ⟨h, gs, dr, n, os⟩ := by
  have lt := Heap.lt_size ex
  refine toOwn S X (od := none) ⟨ex, rfl, rfl, trivial⟩ over dct no fun cd dc lk b => ?_
  obtain ⟨_, _, _, _, _, _, _, _, _, _, _⟩ := cd
  obtain rfl : _ = true := dc
  unfold storeInOwnDict ownDictForStores
  repeat first
    | with_reducible refine store_in_new ?_ ?_
    | with_reducible refine wpAny_loadPart_at ex ?_
    | with_reducible refine lk.at ?_
    | wp_step
  · refine ⟨_, #[], _, (Heap.get?_update_ne _ _ _ _ (Nat.ne_of_gt lt)).trans (Heap.get?_push_at rfl rfl), rfl, fun e he => ?_, fun _ => rfl⟩
    simp at he
  · intro G m ns st
    refine q G m _ (Nat.le_refl _) (Nat.ne_of_gt lt) (fun b o hb e => ?_) ?_ ns
    · rw [st.2 b (Nat.ne_of_lt (Heap.lt_size e)), Heap.get?_update_ne _ _ _ _ hb]
      exact Heap.get?_push_of_some _ e
    · rw [st.2 x (Nat.ne_of_lt lt)]
      exact Heap.get?_update_self _ (Heap.get?_push_of_some _ ex) rfl
/-- a further field -/
theorem putMore {m0 : Str → Option Value} {nl : List Str} (S : StoreFacts B bmB "object.__setattr__" "object") (X : K.In h) (ex : h.get? x = some { cls := .ref C, dict := some d, data := .fields fv }) (ns : h.Ns1 d m0) (wi : Within m0 nl) (z : nl.length ≤ 1000)
    (over : excOver K C bmB = true) (dct : hasDictIn K C = true) (no : W.findIn K (.ref C) f = some none)
    (q : ∀ (G : Heap) (m : Nat), (∀ b o, b ≠ d → h.get? b = some o → G.get? b = some o) → G.Ns1 d (fun y => if y = f then some v else m0 y) → R (.ok (.ret .none)) ⟨G, gs, dr, m, os⟩) :
    codeAny (model P w) A (.call (.builtin "object.__setattr__") ⟨[.ref x, .str f k, v], []⟩) R ⟨h, gs, dr, n, os⟩ := by
  obtain ⟨od, _, _, e, _, _⟩ := ns.count wi
  refine toOwn S X (od := some od) ⟨ex, rfl, rfl, e⟩ over dct no fun cd dc lk b => ?_
  obtain ⟨_, _, _, _, _, _, _, _, _, _, _⟩ := cd
  obtain rfl : _ = true := dc
  unfold storeInOwnDict ownDictForStores
  repeat first
    | with_reducible refine OEX.store_in_old ns wi z ?_
    | with_reducible refine wpAny_loadPart_at ex ?_
    | with_reducible refine lk.at ?_
    | wp_step
  exact fun G m ns' st => q G m (fun b o hb e => by rw [st.2 b hb]; exact e) ns'
end
end PySem.Xk
namespace L2
open PySem PySem.Spec PyProof.Rows
/-- a class of the text over one of the built-in errors, as the written part tells it -/
structure XC (K : PySem.W.Frag) (C : Addr) : Prop where
  ex : ∃ B newId initId bmB, ExcBaseFacts B newId initId bmB ∧ StoreFacts B bmB "object.__setattr__" "object" ∧ PySem.W.excInitIn K C bmB newId = true ∧ PySem.W.excOver K C bmB = true
  (hd : PySem.W.hasDictIn K C = true) (sa : PySem.W.findIn K (.ref C) "__setattr__" = some (some (.builtin "object.__setattr__"))) (ga : PySem.W.findIn K (.ref C) "__getattribute__" = some (some (.builtin "BaseException.__getattribute__")))
  (gg : PySem.W.findIn K (.ref C) "__getattr__" = some none) (exC : PySem.W.subIn K (.ref C) (.type "BaseException") = some true) (tyC : PySem.W.typeIn K (.ref C) = some (.type "type")) (kC : PySem.W.keepIn K (.ref C) = true)
  (ha : PySem.W.findIn K (.ref C) "__class__" = some (some (.builtin "object.__class__"))) (hn : PySem.W.specialIn K (.builtin "object.__class__") "__get__" = some (some (.builtin "getset_descriptor.__get__")))
  (ht : PySem.W.takesIn K (.builtin "object.__class__") = some true) (hm : PySem.W.mroIn K C (.type "object") = some true)
section
variable {X : Cx} {pins : List (Addr × Obj)} {σ : St} {H : Hp} {s : Shared} {a C d : Addr} {f : Str} {y : V} {u : Value} {fs : List (Str × V)} {Q : Unit → Shared → Prop} {E : Value → Shared → Prop} {A : Around}
/-- no other object at d's and a's places -/
theorem two_ne {c : Addr} {o r : HO} (e : H a = some r) (n : H d = none) (ec : H c = some o) (dif : o ≠ r) : c ≠ a ∧ c ≠ d := by
  refine ⟨fun z => ?_, fun z => ?_⟩
  · rw [z, e] at ec
    exact dif (Option.some.inj ec).symm
  · rw [z, n] at ec
    cases ec
theorem two_at {c : Addr} {o g : HO} (q : c ≠ a ∧ c ≠ d) : upd (upd H d g) a o c = H c := by rw [upd_ne q.1, upd_ne q.2]
/-- the first field of an error -/
theorem field1 (T : XC X.K C) (I : Inv X pins σ H s) (e : H a = some (exo a C none)) (no : PySem.W.findIn X.K (.ref C) f = some none) (ry : RelV y u)
    (q : ∀ d s', H d = none → d ≠ a → Inv X pins σ (upd (upd H d (exd d [(f, y)])) a (exo a C (some d))) s' → Q () s') : wpAny (model X.prog X.w) A (setAttr (.ref a) f u) Q E s := by
  obtain ⟨_, _, _, _, _, SF, _, over⟩ := T.ex
  obtain ⟨t, at_⟩ := exo_at I.hok e
  obtain ⟨h, gs, dr, n, os⟩ := s
  refine PySem.W.set_plain I.kIn (od := none) ⟨at_, rfl, rfl, trivial⟩ T.sa (PySem.Xk.putFirst SF I.kIn at_ over T.hd no fun G m d dn da k hx hn => ?_)
  have fd : H d = none := I.hok.fresh dn
  have far : ∀ {b : Addr}, H b = none → b ≠ a := fun {b} z w => by
    rw [w, e] at z
    cases z
  have other : ∀ {b : Addr} {o : HO}, H b = some o → o ≠ exo a C none → upd (upd H d (exd d [(f, y)])) a (exo a C (some d)) b = some o := fun {b o} z dif => (two_at (two_ne e fd z dif)).trans z
  have tupN : ∀ xs, HO.tup xs ≠ exo a C none := fun _ z => by cases z
  have frzN : ∀ o v, HO.frz o v ≠ exo a C none := fun _ _ z => by cases z
  have ownN : ∀ b, HO.own b ≠ exo a C none := fun _ z => by cases z
  have tblN : ∀ ps, HO.tbl ps ≠ exo a C none := fun _ z => by cases z
  have apart : ∀ {b : Addr} {o : Obj}, h.get? b = some o → b ≠ d := fun {b o} z w => Nat.lt_irrefl _ (Nat.lt_of_lt_of_le (Heap.lt_size (w ▸ z)) dn)
  have un : Un X.fs [] H (upd (upd H d (exd d [(f, y)])) a (exo a C (some d))) h G :=
    ⟨fun b o z w _ _ => k b o (far w) z, fun b o z w _ _ => ⟨_, k b o (far w) z⟩, fun b o z w _ => (two_at ⟨far w, apart z⟩).trans w, fun b o z _ => (Decidable.em (b = a)).elim (fun w => ⟨_, w ▸ hx⟩) fun w => ⟨o, k b o w z⟩,
      fun b xs z => other z (tupN xs), fun b o v z => other z (frzN o v), fun b ps z => ⟨#[], by rw [other z (tblN ps)]; simp⟩⟩
  refine q d _ fd da (I.un (t' := m) un fun b o z => ?_)
  rcases Decidable.em (b = a) with rfl | ba
  · obtain rfl := Option.some.inj (upd_same.symm.trans z)
    exact exo_ok hx
  rcases Decidable.em (b = d) with rfl | bd
  · obtain rfl := Option.some.inj ((upd_ne ba).trans upd_same |>.symm.trans z)
    exact exd_ok hn (relO_put (fs := []) ry fun _ => trivial)
  rw [two_at ⟨ba, bd⟩] at z
  refine (I.hok b o z).stay (fun c v hc w => k c v ?_ w) (fun c w => other w (ownN b)) fun c xs w => other w (tupN xs)
  rcases hc with rfl | hc
  · exact ba
  · exact (two_ne e fd hc (ownN b)).1
/-- a further field of an error -/
theorem field2 (T : XC X.K C) (I : Inv X pins σ H s) (e : H a = some (exo a C (some d))) (ed : H d = some (exd d fs)) (few : fs.length ≤ 900) (no : PySem.W.findIn X.K (.ref C) f = some none) (ry : RelV y u)
    (q : ∀ s', Inv X pins σ (upd H d (exd d ((f, y) :: fs))) s' → Q () s') : wpAny (model X.prog X.w) A (setAttr (.ref a) f u) Q E s := by
  obtain ⟨_, _, _, _, _, SF, _, over⟩ := T.ex
  obtain ⟨t, at_⟩ := exo_at I.hok e
  obtain ⟨m0, ns, rel⟩ := exd_at I.hok ed
  obtain ⟨h, gs, dr, n, os⟩ := s
  obtain ⟨od, _, _, eo, _, _⟩ := ns.count (within_of rel)
  refine PySem.W.set_plain I.kIn (od := some od) ⟨at_, rfl, rfl, eo⟩ T.sa (PySem.Xk.putMore SF I.kIn at_ ns (within_of rel) (by simp only [List.length_map]; omega) over T.hd no fun G m k ns' => q _ ?_)
  refine I.write (t' := m) (x := d) (e := d) (o := exd d ((f, y) :: fs)) (by rw [ed]; trivial) (.inl rfl) k ?_ (exd_ok ns' (relO_put ry rel))
  obtain ⟨o, _, _, w, _⟩ := ns'
  exact ⟨o, w⟩
end
/-- self.f = e of an error: what is stored, then where -/
def tOstX (K : PySem.W.Frag) (f : Str) (to te : TE) : TS := fun D σ H => te σ H fun y H1 => to σ H1 fun x H2 => ∃ a C : Addr, x = .ref a ∧ XC K C ∧ PySem.W.findIn K (.ref C) f = some none ∧
  ((H2 a = some (exo a C none) ∧ ∀ d, H2 d = none → d ≠ a → D.nx σ (upd (upd H2 d (exd d [(f, y)])) a (exo a C (some d)))) ∨
    ∃ (d : Addr) (fs : List (Str × V)), H2 a = some (exo a C (some d)) ∧ H2 d = some (exd d fs) ∧ fs.length ≤ 900 ∧ D.nx σ (upd H2 d (exd d ((f, y) :: fs))))
theorem ps_ostX {X : Cx} {o e : Expr} {to te : TE} {f : Str} {p' pos : Pos} (ho : PE X o to) (he : PE X e te) (hs : swapsWith e (some (.Attribute o f p')) pos.line X.env = pure false := by rfl) : PS X (.Assign [.Attribute o f p'] e pos) (tOstX X.K f to te) :=
  ⟨fun pins s σ H D I h => plainObj_wpAny_Assign_Attribute (thn (he.run pins s σ H _ I h) fun v s1 ⟨y, H1, I1, r1, q1⟩ => thn (ho.run pins s1 σ H1 _ I1 q1) fun u s2 ⟨x, H2, I2, r2, a, C, ex, T, no, w⟩ => by
    subst ex
    obtain rfl : u = Value.ref a := r2
    exact w.elim (fun ⟨e1, q⟩ => field1 T I2 e1 no r1 fun d s' n ne J => ⟨σ, _, J, q d n ne⟩) fun ⟨d, fs, e1, e2, few, q⟩ => field2 T I2 e1 e2 few no r1 fun s' J => ⟨σ, _, J, q⟩) hs⟩
end L2

namespace L2
open PySem PySem.Spec PyProof.Rows
/-- C(e, ..): the instance, then __init__ keeping sp -/
def tMkX (C : Addr) (sp : Sp) (ta : TA) : TE := fun σ H Q => ta σ H fun vs H1 => vs.length ≤ 1000 ∧ ∀ a, H1 a = none → sp (.ref a :: vs) (upd H1 a (exo a C none)) (fun v H2 => v = .non ∧ Q (.ref a) H2) E0
/-- C(k = e, ..): by n keywords alone; gV puts the values into the sequence of the parameters -/
def tMkXK (C : Addr) (n : Nat) (sp : Sp) (gV : List V → List V) (tk : TA) : TE := fun σ H Q => tk σ H fun zs H1 => zs.length = n ∧ ∀ a, H1 a = none → sp (.ref a :: gV zs) (upd H1 a (exo a C none)) (fun v H2 => v = .non ∧ Q (.ref a) H2) E0
/-- C(), no __init__ -/
def tMk0 (C : Addr) : TE := fun _ H Q => ∀ a, H a = none → Q (.ref a) (upd H a (exo a C none))
/-- raise C(e, ..): made, then let go -/
def tMkR (C : Addr) (sp : Sp) (ta : TA) : St → Hp → XK → Prop := fun σ H Q => ta σ H fun vs H1 => vs.length ≤ 1000 ∧ ∀ a, H1 a = none → sp (.ref a :: vs) (upd H1 a (exo a C none))
  (fun v H2 => v = .non ∧ ∃ (d : Addr) (fs : List (Str × V)), H2 a = some (exo a C (some d)) ∧ H2 d = some (exd d fs) ∧ H1 d = none ∧ Q (.ref C) (some d) (upd (del H2 a) d (.xd fs))) E0
/-- how keywords alone bind behind self -/
structure KB (K : PySem.W.Frag) (fd : FuncData) (ps ks : List Str) (g : List Value → List Value) (gV : List V → List V) : Prop where
  to : ∀ (s : Shared) (a : Addr) (ws : List Value), K.In s.heap → ws.length = ks.length → BindsTo s fd ⟨[.ref a], ks.zip ws⟩ (ps.zip (.ref a :: g ws))
  rel : ∀ {zs : List V} {ws : List Value}, zs.length = ks.length → Vals zs ws → Vals (gV zs) (g ws)
/-- the __init__ of the class at C: it stands at f, is a def, keeps sp, may be called here -/
structure Init (X : Cx) (CX : CXT) (k : Nat) (C f : Addr) (fd : FuncData) (ps : List Str) (sp : Sp) : Prop where
  xc : XC X.K C
  at_ : PySem.W.findIn X.K (.ref C) "__init__" = some (some (.ref f))
  fn : PySem.W.typeIn X.K (.ref f) = some (.type "function")
  ok : FnOk X.prog X.w X.K X.mg X.base CX k f fd ps sp
  room : Room (k + 1) X.A
  out : Passes CX X (fun _ _ _ => False)
section
variable {X : Cx} {CX : CXT} {k : Nat} {fI C : Addr} {fd : FuncData} {ps : List Str} {sp : Sp} {x : Str} {p pos : Pos} {e : Expr} {es : List Expr} {ta tk : TA}
/-- C called: what stands behind its __init__ is handed to fin -/
theorem Init.call (T : Init X CX k C fI fd ps sp) {pins : List (Addr × Obj)} {σ : St} {H1 : Hp} {s1 : Shared} {Φ : Addr → VK} {R : Value → Shared → Prop} {us args : List Value} {kw : List (Str × Value)} {vs : List V} (I1 : Inv X pins σ H1 s1)
    (hb : ∀ (s : Shared) (a : Addr), X.K.In s.heap → BindsTo s fd ⟨.ref a :: us, kw⟩ (ps.zip (.ref a :: args))) (rv : Vals vs args) (hl : us.length ≤ sizeLine) (q1 : ∀ a, H1 a = none → sp (.ref a :: vs) (upd H1 a (exo a C none)) (Φ a) E0) (non : ∀ a v H, Φ a v H → v = .non)
    (fin : ∀ (a : Addr) (s2 s3 : Shared), s1.heap.objs.size ≤ a → (∀ b o, s1.heap.get? b = some o → s2.heap.get? b = some o) → s2.os = s1.os → Inv X pins σ (upd H1 a (exo a C none)) s2 → CR CX X.stack X.prog X.w (upd H1 a (exo a C none)) s2 (Φ a) E0 (.ok (.ret .none)) s3 → R (.ref a) s3) :
    wpAny (model X.prog X.w) X.A (PySem.call (.ref C) us kw) R X.xe s1 := by
  obtain ⟨_, _, _, _, FB, _, qI, _⟩ := T.xc.ex
  obtain ⟨n, N, m, bs, bm, hdct, sn, sub, ab, col, dd, k0, k1, k2, k3, k5, hC, hT⟩ := PySem.W.excInit_of I1.kIn qI
  obtain ⟨h, g, dr, n', os⟩ := s1
  have c : PySem.Xk.At h C _ _ := ⟨_, _, _, _, _, _, _, _, _, _, _, _, _, _, _, _, hC, hT⟩
  have hq := q1 (h.objs.size + 1) (I1.hok.fresh (Nat.le_succ _))
  have I2 : Inv X pins σ (upd H1 (h.objs.size + 1) (exo (h.objs.size + 1) C none)) ⟨PySem.Xk.made h C us, g, dr, n', os⟩ := I1.laid (t' := n') PySem.Xk.made_old (Nat.le_succ _) (exo_ok PySem.Xk.made_new)
  have rv' : Vals (V.ref (h.objs.size + 1) :: vs) (Value.ref (h.objs.size + 1) :: args) := .cons rfl rv
  refine wpAny_call (PySem.Xk.called FB c (PySem.W.looks_findIn I1.kIn T.at_) (fun y => PySem.W.bind_fn I1.kIn y T.fn) hl ?_)
  refine codeAny_mono (T.ok.run _ X.stack _ _ ⟨Value.ref (h.objs.size + 1) :: us, kw⟩ (Value.ref (h.objs.size + 1) :: args) _ _ E0 (T.room.make C us kw) (I2.env0.make C us kw) (hb _ _ I2.kIn) rv' hq) fun r s' z => ?_
  match r, z with
  | .error er, z => exact T.out pins σ _ _ er s' I2 z
  | .ok (.ret u), z =>
    obtain ⟨v, _, _, _, _, _, rv2, q⟩ := id z
    obtain rfl := non _ _ _ q
    obtain rfl : u = Value.none := rv2
    exact ⟨rfl, fin _ ⟨PySem.Xk.made h C us, g, dr, n', os⟩ s' (Nat.le_succ _) PySem.Xk.made_old rfl I2 z⟩
theorem Init.value (T : Init X CX k C fI fd ps sp) {pins : List (Addr × Obj)} {σ : St} {H1 : Hp} {s1 : Shared} {Q : VK} {us args : List Value} {kw : List (Str × Value)} {vs : List V} (I1 : Inv X pins σ H1 s1)
    (hb : ∀ (s : Shared) (a : Addr), X.K.In s.heap → BindsTo s fd ⟨.ref a :: us, kw⟩ (ps.zip (.ref a :: args))) (rv : Vals vs args) (hl : us.length ≤ sizeLine) (q1 : ∀ a, H1 a = none → sp (.ref a :: vs) (upd H1 a (exo a C none)) (fun v H2 => v = .non ∧ Q (.ref a) H2) E0) :
    wpAny (model X.prog X.w) X.A (PySem.call (.ref C) us kw) (EP X pins σ Q) X.xe s1 :=
  T.call (Φ := fun a v H2 => v = .non ∧ Q (.ref a) H2) I1 hb rv hl q1 (fun _ _ _ q => q.1) fun a s2 s3 _ _ _ I2 z => by
    obtain ⟨v, H2, I3, _, _, q⟩ := I2.after z
    exact ⟨V.ref a, H2, I3, rfl, q⟩
/-- arguments by place bind behind self -/
theorem Init.binds (T : Init X CX k C fI fd ps sp) (hb : Binds X.K fd ps []) {s1 : Shared} {us : List Value} {vs : List V} {H1 : Hp} {Q : VK} {E : XK} {a' : Addr} {G : Hp} (r : Vals vs us) (q : sp (.ref a' :: vs) G Q E) (s : Shared) (a : Addr) (hK : X.K.In s.heap) : BindsTo s fd ⟨.ref a :: us, []⟩ (ps.zip (.ref a :: us)) := by
  have l := T.ok.len _ _ _ _ q
  rw [List.length_cons, Paired.length r] at l
  have b := hb s (.ref a :: us) hK (by simpa using l)
  rw [List.append_nil] at b
  exact b
/-- C(e, ..) -/
theorem pe_exc (T : XC X.K C) (iC : PySem.W.findIn X.K (.ref C) "__init__" = some (some (.ref fI))) (tI : PySem.W.typeIn X.K (.ref fI) = some (.type "function"))
    (F1 : FnOk X.prog X.w X.K X.mg X.base CX k fI fd ps sp) (hr : Room (k + 1) X.A) (hb : Binds X.K fd ps []) (hx : Passes CX X (fun _ _ _ => False)) (hg : Gl X x) (hm : X.mg x = some (.ref C)) (ha : PA X (e :: es) ta)
    (hdb : (x == ("__debug__" : Str)) = false := by decide)
    (he : starEach (e :: es) X.env = (false, eval e X.env) :: starEach es X.env := by rfl)
    (hpl : (backTo pos (starEach es X.env)).any (·.1) = false := by rfl) : PE X (.Call (.Name x p) (e :: es) [] pos) (tMkX C sp ta) := by
  have J : Init X CX k C fI fd ps sp := ⟨T, iC, tI, F1, hr, hx⟩
  constructor
  intro pins s σ H Q I h
  refine wpAny_Call_Name_kw (ld_glob I hg hm (PySem.W.callWith_K (h₀ := X.base) I.ok.mod.kin T.kC (thn (ha.run pos pins s σ H _ I h) fun us s1 w => ?_) he hpl) hdb)
  obtain ⟨vs, H1, I1, r, z, q⟩ := w
  exact ⟨I1.kIn, J.value (kw := []) I1 (J.binds (s1 := s1) (H1 := H1) hb r (q (s1.heap.objs.size) (I1.hok.fresh (Nat.le_refl _)))) r (by show us.length ≤ _; rw [← Paired.length r, sizeLine_eq]; omega) q⟩
/-- C(k = e, ..) -/
theorem pe_excK {ks : List Str} {kws : List Keyword} {g : List Value → List Value} {gV : List V → List V} (T : XC X.K C) (iC : PySem.W.findIn X.K (.ref C) "__init__" = some (some (.ref fI))) (tI : PySem.W.typeIn X.K (.ref fI) = some (.type "function"))
    (F1 : FnOk X.prog X.w X.K X.mg X.base CX k fI fd ps sp) (hr : Room (k + 1) X.A) (hb : KB X.K fd ps ks g gV) (hx : Passes CX X (fun _ _ _ => False)) (hg : Gl X x) (hm : X.mg x = some (.ref C)) (hkw : PK X kws tk)
    (hall : (backToKw pos (keywordEach kws X.env)).all (·.1.isSome) = true := by rfl) (hks : (backToKw pos (keywordEach kws X.env)).filterMap (·.1) = ks := by rfl)
    (hdb : (x == ("__debug__" : Str)) = false := by decide)
    (hpl : ((backTo pos (starEach [] X.env)).any (·.1) || (backToKw pos (keywordEach kws X.env)).any (·.1.isNone)) = false := by rfl) : PE X (.Call (.Name x p) [] kws pos) (tMkXK C ks.length sp gV tk) := by
  have J : Init X CX k C fI fd ps sp := ⟨T, iC, tI, F1, hr, hx⟩
  constructor
  intro pins s σ H Q I h
  refine wpAny_Call_Name_kw (ld_glob I hg hm (PySem.W.callWith_KW0 (h₀ := X.base) I.ok.mod.kin T.kC hall (thn (hkw.run pos pins s σ H _ I h) fun ws s2 w => ?_) hpl) hdb)
  obtain ⟨zs, H2, I2, r, l, q⟩ := w
  rw [hks]
  exact ⟨I2.kIn, J.value (us := []) (kw := ks.zip ws) I2 (fun s a hK => hb.to s a ws hK (r.length.symm.trans l)) (hb.rel l r) (by rw [sizeLine_eq]; decide) q⟩
/-- raise's C(e, ..) -/
theorem pmk_exc (T : XC X.K C) (iC : PySem.W.findIn X.K (.ref C) "__init__" = some (some (.ref fI))) (tI : PySem.W.typeIn X.K (.ref fI) = some (.type "function"))
    (F1 : FnOk X.prog X.w X.K X.mg X.base CX k fI fd ps sp) (hr : Room (k + 1) X.A) (hb : Binds X.K fd ps []) (hx : Passes CX X (fun _ _ _ => False)) (hg : Gl X x) (hm : X.mg x = some (.ref C)) (ha : PA X (e :: es) ta)
    (hdb : (x == ("__debug__" : Str)) = false := by decide)
    (he : starEach (e :: es) X.env = (false, eval e X.env) :: starEach es X.env := by rfl)
    (hpl : (backTo pos (starEach es X.env)).any (·.1) = false := by rfl) : PMk X (.Call (.Name x p) (e :: es) [] pos) (tMkR C sp ta) := by
  have J : Init X CX k C fI fd ps sp := ⟨T, iC, tI, F1, hr, hx⟩
  intro pins s σ H Q I h
  refine wpAny_Call_Name_kw (ld_glob I hg hm (PySem.W.callWith_K (h₀ := X.base) I.ok.mod.kin T.kC (thn (ha.run pos pins s σ H _ I h) fun us s1 w => ?_) he hpl) hdb)
  obtain ⟨vs, H1, I1, r, z, q⟩ := w
  refine ⟨I1.kIn, J.call (kw := []) I1 (J.binds (s1 := s1) (H1 := H1) hb r (q (s1.heap.objs.size) (I1.hok.fresh (Nat.le_refl _)))) r (by show us.length ≤ _; rw [← Paired.length r, sizeLine_eq]; omega) q (fun _ _ _ y => y.1) fun a s2 s3 le up eo _ y => ?_⟩
  obtain ⟨_, _, eo3, bare, un, hok, _, _, d, fs, ea, ed, nd, q2⟩ := y
  exact mk_end (raises_own T.exC T.tyC) I1 le up un hok (eo3.trans eo) bare ea ed nd q2
/-- C(), no __init__ of its own -/
theorem pe_exc0 {bmB : List Value} {B newId initId : String} (T : XC X.K C) (F : ExcBaseFacts B newId initId bmB) (q : PySem.W.excIn X.K C bmB newId = true) (hg : Gl X x) (hm : X.mg x = some (.ref C)) (hdb : (x == ("__debug__" : Str)) = false := by decide) : PE X (.Call (.Name x p) [] [] pos) (tMk0 C) := by
  constructor
  intro pins s σ H Q I h
  refine wpAny_Call_Name_kw (ld_glob I hg hm (PySem.W.callWith_K0 I.kIn T.kC ?_) hdb)
  obtain ⟨_, _, _, _, _, _, _, _, _, _, _, _, _, _, _, _, _, hC, hN, no, tail⟩ := exc_obj I.kIn q
  refine (show wpAny _ _ (PySem.call (.ref C) []) _ _ _ from wpAny_call_exc_subT F tail hC hN no (fun G a m => ?_) (Nat.zero_le _))
  have na : H a = none := I.hok.gone m.new
  obtain ⟨_, ea, _⟩ := m.there
  exact ⟨V.ref a, upd H a (exo a C none), I.laidN m.keeps m.new na (exo_ok ea), rfl, h a na⟩
end
/-! ### a field read, the class asked -/
/-- e.f of an error e -/
def tXf (K : PySem.W.Frag) (te : TE) (f : Str) : TE := fun σ H Q => te σ H fun x H1 => ∃ (a C d : Addr) (fs : List (Str × V)) (v : V), x = .ref a ∧ XC K C ∧ PySem.W.findIn K (.ref C) f = some none ∧ H1 a = some (exo a C (some d)) ∧ H1 d = some (exd d fs) ∧ fs.lookup f = some v ∧ Q v H1
/-- n.f in the suite of an except clause, n the exception at a -/
def tXdf (K : PySem.W.Frag) (a : Addr) (cls : Value) (d : Option Addr) (te : TE) (f : Str) : TE := fun σ H Q => te σ H fun x H1 => x = .ref a ∧ ∃ (C dd : Addr) (fs : List (Str × V)) (v : V), cls = .ref C ∧ XC K C ∧ PySem.W.findIn K (.ref C) f = some none ∧
  d = some dd ∧ H1 dd = some (.xd fs) ∧ fs.lookup f = some v ∧ Q v H1
section
variable {X : Cx} {e : Expr} {te : TE} {f : Str} {pos : Pos}
/-- the field's value, from the dict at d -/
theorem XC.field {C a d : Addr} (T : XC X.K C) (no : PySem.W.findIn X.K (.ref C) f = some none) {s : Shared} {fs : List (Str × V)} {v : V} {b : Bool} {Q : Value → Shared → Prop} {A : Around} {E : Value → Shared → Prop} {o : Obj} (kin : X.K.In s.heap) (ea : s.heap.get? a = some o)
    (ec : o.cls = .ref C) (ed : o.dict = some d) (nc : PySem.W.notCls o = true) (ens : ∃ mA, s.heap.Ns1 d mA ∧ ∀ g, RelO (fs.lookup g) (mA g)) (hl : fs.lookup f = some v) (q : ∀ u n, RelV v u → Q u { s with toks := n }) : wpAny (model X.prog X.w) A (getAttr (.ref a) f b) Q E s := by
  obtain ⟨mA, ns, rel⟩ := ens
  obtain ⟨od, eo, look⟩ := lookIn_ns ns
  obtain ⟨u, eu, ru⟩ := RelO.some_of (o := mA f) (hl ▸ rel f)
  have J : PySem.W.InstAt s.heap a o C (some od) := ⟨ea, ec, nc, by rw [ed]; exact eo⟩
  exact HandSPX.exc_get kin J T.ga T.gg T.exC (PySem.W.findObj_own T.hd no rfl (by rw [look, eu])) (handed_of ru) (q u _ ru)
theorem pe_xfld (he : PE X e te) (hb : attributeBase e f X.env (eval e X.env) = eval e X.env := by rfl) : PE X (.Attribute e f pos) (tXf X.K te f) :=
  ⟨fun pins s σ H Q I h => attr_of hb (thn (he.run pins s σ H _ I h) fun u s1 ⟨x, H1, I1, r1, a, C, d, fs, v, ex, T, no, ea, ed, hl, q⟩ => by
    subst ex
    obtain rfl : u = Value.ref a := r1
    obtain ⟨_, at_⟩ := exo_at I1.hok ea
    exact T.field no I1.kIn at_ rfl rfl rfl (exd_at I1.hok ed) hl fun u n ru => ⟨v, H1, I1.tok n, ru, q⟩)⟩
theorem pe_xdf {a : Addr} {oe : Obj} {cls : Value} {d : Option Addr} {pn : List (Addr × Obj)} (hz : Zc cls d oe) (hf : ∃ vs, oe.data = .fields vs) (he : PE (X.suite a ((a, oe) :: pn)) e te)
    (hb : attributeBase e f X.env (eval e X.env) = eval e X.env := by rfl) : PE (X.suite a ((a, oe) :: pn)) (.Attribute e f pos) (tXdf X.K a cls d te f) :=
  ⟨fun pins s σ H Q I h => attr_of hb (thn (he.run pins s σ H _ I h) fun u s1 ⟨x, H1, I1, r1, ex, C, dd, fs, v, ec, T, no, ed, e2, hl, q⟩ => by
    subst ex ec ed
    obtain rfl : u = Value.ref a := r1
    obtain ⟨vs, eo⟩ := hf
    exact T.field no I1.kIn (I1.pin (a, oe) (List.mem_append_left _ List.mem_cons_self)).1 hz.1 hz.2 (by unfold PySem.W.notCls; rw [eo]) (I1.hok dd _ e2) hl fun u n ru => ⟨v, H1, I1.tok n, ru, q⟩)⟩
/-- isinstance(e, c), e an error -/
def rIsX (K : PySem.W.Frag) : List V → Hp → VK → Prop := fun xs H Q => ∃ (a C : Addr) (d : Option Addr) (c : V) (cv : Value) (b : Bool), xs = [.ref a, c] ∧ XC K C ∧ H a = some (exo a C d) ∧ (∀ dd, d = some dd → ∃ fs, H dd = some (exd dd fs)) ∧
  (∀ u, RelV c u → u = cv) ∧ PySem.W.kitOne K (.ref C) cv = some b ∧ Q (.bl b) H
theorem call_isX : CallR X (.builtin "isinstance") (rIsX X.K) := by
  intro pins s σ H xs us Q I r h
  obtain ⟨a, C, d, c, cv, b, rfl, T, ea, hd, hcv, e, q⟩ := h
  obtain ⟨_, _, rfl, rx, rt⟩ : ∃ u1 u2, us = [u1, u2] ∧ RelV (V.ref a) u1 ∧ RelV c u2 := by
    cases r with
    | cons r1 r2 => cases r2 with
      | cons r2 r3 =>
        cases r3
        exact ⟨_, _, rfl, r1, r2⟩
  cases rx
  obtain rfl := hcv _ rt
  obtain ⟨t, at_⟩ := exo_at I.hok ea
  have cls : (PySem.W.clsIn X.K C).isSome = true := by
    obtain ⟨cd, w, _⟩ := PySem.W.any_some T.hd
    rw [w]
    rfl
  obtain ⟨od, J⟩ : ∃ od, PySem.W.InstAt s.heap a { cls := .ref C, dict := d, data := .fields #[.ref t, .none, .none, .none, .bool false, .none] } C od := by
    match d, hd, at_ with
    | none, _, at_ => exact ⟨none, at_, rfl, rfl, trivial⟩
    | some dd, hd, at_ =>
      obtain ⟨fs, ed⟩ := hd dd rfl
      obtain ⟨mA, ns, _⟩ := exd_at I.hok ed
      obtain ⟨od, eo, _⟩ := lookIn_ns ns
      exact ⟨some od, at_, rfl, rfl, eo⟩
  exact PySem.W.kia_one (PySem.W.kitx_exc cls T.ga T.gg T.exC T.ha T.hn T.ht T.hm) I.kIn J e (fun z => nomatch z) fun n => ⟨.bl b, H, I.kept (t' := n) fun _ _ z => z, rfl, q⟩
end
end L2

/-! Data that may hold dicts with text keys, read off the abstract heap; what repr makes of it. Defs that are promised only where no repr is running around them. -/
namespace L2
open PySem PySem.Spec PyProof.Rows
mutual
/-- v stands for the datum d (the lists, tuples and dicts in it are tracked or of the written part) -/
inductive Dd (K : PySem.W.Frag) (H : Hp) : V → PyData → Prop
  | non : Dd K H .non .none
  | bl (b : Bool) : Dd K H (.bl b) (.bool b)
  | int (i : Int) : Dd K H (.int i) (.int i)
  | str (x : Str) : Dd K H (.str x) (.str x)
  | lst {a : Addr} {xs : List V} {ds : List PyData} (h : H a = some (.lst xs)) (t : Dds K H xs ds) : Dd K H (.ref a) (.list ds)
  | tup {a : Addr} {xs : List V} {ds : List PyData} (h : H a = some (.tup xs)) (t : Dds K H xs ds) : Dd K H (.ref a) (.tuple ds)
  | dic {a : Addr} {kvs : List (Key × V)} {ks vs : List PyData} (h : H a = some (.dK kvs)) (k : Dds K H (kvs.map fun p => kV p.1) ks) (t : Dds K H (kvs.map (·.2)) vs) (l : ks.length = vs.length) : Dd K H (.ref a) (.dict (ks.zip vs))
inductive Dds (K : PySem.W.Frag) (H : Hp) : List V → List PyData → Prop
  | nil : Dds K H [] []
  | cons {v : V} {vs : List V} {d : PyData} {ds : List PyData} (h : Dd K H v d) (t : Dds K H vs ds) : Dds K H (v :: vs) (d :: ds)
end
mutual
theorem Dd.same {K : PySem.W.Frag} {H H' : Hp} (e : ∀ b o, H b = some o → H' b = some o) : ∀ {v : V} {d : PyData}, Dd K H v d → Dd K H' v d
  | _, _, .non => .non
  | _, _, .bl b => .bl b
  | _, _, .int i => .int i
  | _, _, .str x => .str x
  | _, _, .lst h t => .lst (e _ _ h) (Dds.same e t)
  | _, _, .tup h t => .tup (e _ _ h) (Dds.same e t)
  | _, _, .dic h k t l => .dic (e _ _ h) (Dds.same e k) (Dds.same e t) l
theorem Dds.same {K : PySem.W.Frag} {H H' : Hp} (e : ∀ b o, H b = some o → H' b = some o) : ∀ {v : List V} {d : List PyData}, Dds K H v d → Dds K H' v d
  | _, _, .nil => .nil
  | _, _, .cons h t => .cons (Dd.same e h) (Dds.same e t)
end
/-- the written part holds the dict of the loaded modules (so no list of ours stands there) -/
def smOk (K : PySem.W.Frag) : Bool := match K.lookup sysModules with
  | some ⟨.type c, _, .dict _ _, _⟩ => c == "dict"
  | _ => false
theorem sm_ne {K : PySem.W.Frag} {h : Heap} (X : K.In h) (q : smOk K = true) {a : Addr} {o : Obj} {vs : Array Value} {n : Nat} (ho : h.get? a = some o) (hd : o.data = .seq vs n) : a ≠ sysModules := by
  rintro rfl
  unfold smOk at q
  split at q
  · rename_i c d es ep sl e
    have z := (X _ _ e).symm.trans ho
    cases z
    cases hd
  · cases q
section
variable {X : Cx} {pins : List (Addr × Obj)} {σ : St} {H : Hp} {s : Shared}
theorem pairs_reads {prog : Program} {w : World} {h : Heap} : ∀ {es : List DictEntry} {vs : List (Key × Value)} {kvs : List (Key × V)}, Pairs (mixKind prog w) es vs → KV kvs vs →
    Vals (kvs.map fun p => kV p.1) (es.map (·.key)) ∧ Vals (kvs.map (·.2)) (es.map (·.val))
  | [], _, _, .nil, r => by
    cases r
    exact ⟨.nil, .nil⟩
  | e :: es, _, _, .cons h1 h2 h3, r => by
    cases r with
    | @cons p _ l1 _ a b =>
      obtain ⟨r1, r2⟩ := pairs_reads (h := h) h3 b
      obtain ⟨e1, e2⟩ := a
      have h1' : keyIs p.1 e.key = true := by
        rw [e1]
        exact h1
      refine ⟨.cons ?_ r1, .cons ?_ r2⟩
      · show RelV (kV p.1) e.key
        rcases keyIs_shape h1' with ⟨i, t, ei, z⟩ | ⟨x, t, ei, z⟩
        · rw [ei]
          exact ⟨t, z⟩
        · rw [ei]
          exact ⟨t, z⟩
      · show RelV p.2 e.val
        rw [h2]
        exact e2
mutual
theorem Dd.reads (I : Inv X pins σ H s) (q : smOk X.K = true) : ∀ {d : PyData} {v : V} {u : Value}, Dd X.K H v d → RelV v u → ∃ as, Reads s.heap u d as ∧ sysModules ∉ as
  | _, _, _, .non, r => by
    cases r
    exact ⟨_, Reads.none, by simp⟩
  | _, _, _, .bl b, r => by
    cases r
    exact ⟨_, Reads.bool b, by simp⟩
  | _, _, _, .int i, r => by
    obtain ⟨t, rfl⟩ := r
    exact ⟨_, Reads.int i t, by simp⟩
  | _, _, _, .str x, r => by
    obtain ⟨t, rfl⟩ := r
    exact ⟨_, Reads.str x t, by simp⟩
  | _, _, _, .lst h t, r => by
    cases r
    obtain ⟨its, rv, ⟨o, n, ho, hc, _, hd⟩, _⟩ := I.list (SqL.of h)
    obtain ⟨as, hr, hn⟩ := Dds.reads I q t rv
    refine ⟨_, Reads.list ho hc hd hr, fun z => ?_⟩
    rcases List.mem_cons.mp z with z | z
    · exact sm_ne I.kIn q ho hd z.symm
    · exact hn z
  | _, _, _, .tup h t, r => by
    cases r
    obtain ⟨its, rv, ⟨o, ho, hc, n, hd⟩, _⟩ := I.tuple (SqT.of h)
    obtain ⟨as, hr, hn⟩ := Dds.reads I q t rv
    exact ⟨_, Reads.tuple ho hc hd hr, hn⟩
  | _, _, _, @Dd.dic _ _ a kvs ks vs h k t l, r => by
    cases r
    obtain ⟨_, hsm, ws, rel, o, es, ep, ho, hx, hd, _, hp, _⟩ := I.hok a _ h
    obtain ⟨rk, rvs⟩ := pairs_reads (h := s.heap) hp rel
    obtain ⟨as, h1, n1⟩ := Dds.reads I q k rk
    obtain ⟨bs, h2, n2⟩ := Dds.reads I q t rvs
    have e1 : (ks.zip vs).map (·.1) = ks := List.map_fst_zip (by omega)
    have e2 : (ks.zip vs).map (·.2) = vs := List.map_snd_zip (by omega)
    refine ⟨_, Reads.dict ho hx.1 hd (by rw [e1]; exact h1) (by rw [e2]; exact h2), fun z => ?_⟩
    rcases List.mem_append.mp z with z | z
    · rcases List.mem_cons.mp z with z | z
      · rw [← z] at hsm
        exact absurd hsm (by decide)
      · exact n1 z
    · exact n2 z
theorem Dds.reads (I : Inv X pins σ H s) (q : smOk X.K = true) : ∀ {ds : List PyData} {vs : List V} {us : List Value}, Dds X.K H vs ds → Vals vs us → ∃ as, ReadsAll s.heap us ds as ∧ sysModules ∉ as
  | _, _, _, .nil, r => by
    cases r
    exact ⟨_, ReadsAll.nil, by simp⟩
  | _, _, _, .cons h t, r => by
    cases r with
    | cons r1 r2 =>
      obtain ⟨as, q1, n1⟩ := Dd.reads I q h r1
      obtain ⟨bs, q2, n2⟩ := Dds.reads I q t r2
      refine ⟨_, ReadsAll.cons q1 q2, fun z => ?_⟩
      rcases List.mem_append.mp z with z | z
      · exact n1 z
      · exact n2 z
end
end
/-- repr of a list, tuple or dict of data -/
def rRepr (K : PySem.W.Frag) : List V → Hp → VK → Prop := fun xs H Q => ∃ a d, xs = [.ref a] ∧ Dd K H (.ref a) d ∧ d.showable = true ∧ d.depth ≤ 20 ∧ d.shown.length ≤ sizeLine ∧ Q (.str d.shown) H
theorem call_reprD {X : Cx} (hg : X.A.guards = some []) (hu : X.A.units + 64 < cLine) (q : smOk X.K = true) : CallR X (.builtin "repr") (rRepr X.K) := by
  intro pins s σ H xs us Q I r h
  obtain ⟨a, d, rfl, hd, hs, hz, hl, k⟩ := h
  obtain ⟨u, rfl, ru⟩ := vals1 r
  cases ru
  obtain ⟨as, hr, hn⟩ := Dd.reads I q hd rfl
  refine repr_of_reads' hr hs (fun _ => hn) hg (by omega) (fun _ _ e => e) (fun h' u tk hk => ?_) hl
  exact ⟨.str d.shown, H, I.kept (t' := tk) hk, ⟨u, rfl⟩, k⟩

/-! ### a promise that is kept where no guard stands around -/
structure FnG (P : Program) (w : World) (K : PySem.W.Frag) (mg : Str → Option Value) (base : Heap) (CX : CXT) (k : Nat) (f : Addr) (fd : FuncData) (ps : List Str) (sp : Sp) : Prop where
  many : ∀ vs H Q E, sp vs H Q E → vs.length = ps.length
  goes : ∀ (A : Around) (outer : List Env) (s : Shared) (H : Hp) (args : Args) (us : List Value) (vs : List V) (Q : VK) (E : XK), A.guards = some [] → Room k A → Env0 P w K mg base A outer s H → BindsTo s fd args (ps.zip us) → Vals vs us → sp vs H Q E →
    codeAny (model P w) A (Code.call (.ref f) args) (CR CX outer P w H s Q E) s
section
variable {P : Program} {w : World} {K : PySem.W.Frag} {mg : Str → Option Value} {base : Heap} {CX : CXT} {x qual : Str} {params : Arguments} {body : List Stmt} {scope : Scope} {dvs : List V} {kws : List (Str × V)} {f : Addr} {fd : FuncData}
/-- a def whose body is read only where no guard stands -/
theorem FunD.okG {N ps : List Str} {k : Nat} {sp : Sp} (F : FunD K x qual params body scope dvs kws f fd) (S : FnScope N ps scope) (len : ∀ vs H Q E, sp vs H Q E → vs.length = ps.length)
    (hbody : ∀ (cdv : Value) (A : Around) (outer : List Env) (s : Shared) (H : Hp) (vs : List V) (Q : VK) (E : XK), A.guards = some [] → Room k (A.deeper (envOfC qual scope s.heap.objs.size f cdv)) → sp vs H Q E →
      ∃ t, PSs (cxOf CX P w K mg base N qual scope f cdv A outer s H E) body t ∧ t { nx := fun _ H' => Q .non H', rt := Q } (start N vs) H) : FnG P w K mg base CX (k + 1) f fd ps sp := by
  refine ⟨len, fun A outer s H args us vs Q E free room e0 bind rel want => ?_⟩
  obtain ⟨_, _, _, _, _, _, _, cdv, _, _, rfl, at_, rec_, _, _⟩ := F.ex
  have KX : K.In s.heap := e0.mod.kin.keeps fun b o e => (e0.bs b o e).1
  have inside : ∀ y : Str × Value, y ∈ ps.zip us → _ := fun y hy => S.par y.1 (List.of_mem_zip hy).1
  refine codeAny_call_function room.depth (KX _ _ at_) rfl S.co S.gen rfl (PySem.W.codeRec_of KX rec_) (bind _ _ _ _ (wpAny_newFunctionEnv_cells S.kind (fun y hy => ?_) fun env eq s1 C => ?_))
  · exact (inside y hy).imp id fun z => ⟨z, PySem.W.cellsFrom_some _ _ _ (.inl z)⟩
  subst eq
  refine ⟨(e0.mod.nolimit.keeps fun b o e => (e0.bs b o e).1).keeps C.toInCall.keep, codeAny_func ?_⟩
  obtain ⟨t, walk, q⟩ := hbody cdv A outer s H vs Q E free (room.deeper _) want
  refine wpAny_mono (walk.run [] s1 (start N vs) H _ (inv_start (CX := CX) (E := E) S room.hd e0 (len _ _ _ _ want) rel C) q) (fun fl s2 y => ?_) fun _ _ y => y
  match fl, y with
  | .next, ⟨_, H2, J, q⟩ => exact ⟨.non, H2, J.os, J.bare, J.base, J.hok, rfl, q⟩
  | .brk, ⟨_, _, _, q⟩ => exact q.elim
  | .cont, ⟨_, _, _, q⟩ => exact q.elim
  | .ret u, ⟨v, _, H2, J, r, q⟩ => exact ⟨v, H2, J.os, J.bare, J.base, J.hok, r, q⟩
end
/-- f(e, ..), no defaults, where no guard stands around -/
theorem pe_callG {X : Cx} {CX : CXT} {k : Nat} {f : Addr} {fd : FuncData} {ps : List Str} {sp : Sp} {E : XK} {x : Str} {p pos : Pos} {e : Expr} {es : List Expr} {t : TA} (F : FnG X.prog X.w X.K X.mg X.base CX k f fd ps sp) (hgu : X.A.guards = some []) (hr : Room k X.A) (hg : Gl X x)
    (hm : X.mg x = some (.ref f)) (hk : PySem.W.keepIn X.K (.ref f) = true) (hb : Binds X.K fd ps []) (hx : Passes CX X E) (ha : PA X (e :: es) t) (hdb : (x == ("__debug__" : Str)) = false := by decide)
    (he : starEach (e :: es) X.env = (false, eval e X.env) :: starEach es X.env := by rfl)
    (hpl : (backTo pos (starEach es X.env)).any (·.1) = false := by rfl) : PE X (.Call (.Name x p) (e :: es) [] pos) (tCall sp [] E t) := by
  constructor
  intro pins s σ H Q I h
  refine wpAny_Call_Name_kw (ld_glob I hg hm (PySem.W.callWith_K (h₀ := X.base) I.ok.mod.kin hk (thn (ha.run pos pins s σ H _ I h) fun us s1 y => ?_) he hpl) hdb)
  obtain ⟨vs, H1, I1, r, q⟩ := y
  have want : sp vs H1 Q E := (List.append_nil vs) ▸ (show sp (vs ++ []) H1 Q E from q)
  have bind := hb s1 us I1.kIn (by rw [List.append_nil, ← r.length]; exact F.many _ _ _ _ want)
  rw [List.append_nil] at bind
  refine ⟨I1.kIn, wpAny_call (codeAny_mono (F.goes X.A X.stack s1 H1 ⟨us, []⟩ us vs Q E hgu hr I1.env0 bind r want) fun r' s2 y => ?_)⟩
  match r', y with
  | .error e, y => exact hx pins σ H1 s1 e s2 I1 y
  | .ok (.ret u), y => exact I1.after y
end L2

/-! The end of a law whose def is promised where no guard stands (FnG), over facts read off the top's heap. -/
namespace L2
open PySem PySem.Spec PyProof.Rows
section
variable {P : Program} {w : World} {K : PySem.W.Frag} {mg mb : Str → Option Value} {CX : CXT} {k : Nat} {fa a : Addr} {fd : FuncData} {x : Str} {sp : Sp} {s₁ : Shared} {vs : List Value} {ns : List Int}
/-- the script's object, and nothing else, may be tracked at the entry -/
structure EntryHp (K : PySem.W.Frag) (s : Shared) (a : Addr) (vs : List Value) (ns : List Int) (H : Hp) : Prop where
  one : ∀ b, H b = none ∨ (b = a ∧ K.lookup a = none ∧ H b = some (.frz { cls := .type "list", data := .seq vs.toArray } (.lst (ns.map V.int))))
  seq : SqL K H a (ns.map V.int)
theorem EntryHp.made (KX : K.In s₁.heap) (ha : s₁.heap.get? a = some { cls := .type "list", data := .seq vs.toArray }) (hi : IntsAre vs ns) (hl : ns.length ≤ sizeLine) : ∃ H, EntryHp K s₁ a vs ns H := by
  cases e : K.lookup a with
  | some o =>
    obtain rfl := Option.some.inj (ha.symm.trans (KX a o e))
    exact ⟨fun _ => none, fun _ => .inl rfl, .inr ⟨_, vs.toArray, _, e, rfl, rfl, rfl, by rw [List.size_toArray, hi.length]; exact hl, by simpa using vals_ints hi⟩⟩
  | none =>
    refine ⟨upd (fun _ => none) a (.frz { cls := .type "list", data := .seq vs.toArray } (.lst (ns.map V.int))), fun b => ?_, .inl (.inr ⟨_, upd_same⟩)⟩
    by_cases hb : b = a
    · subst hb
      exact .inr ⟨rfl, e, upd_same⟩
    · exact .inl (upd_ne hb)
theorem law_callG (KX : K.In s₁.heap) (hns : s₁.heap.Ns mainGlobals mg) (hb : s₁.heap.Ns builtinsNs mb) (hbb : ∀ y : Str, y ≠ "__name__" → mb y = bootBuiltins y) (hlim : s₁.heap.NoLimit) (hg : s₁.gens = #[])
    (ha : s₁.heap.get? a = some { cls := .type "list", data := .seq vs.toArray })
    (hi : IntsAre vs ns) (hl : ns.length ≤ sizeLine) (hr : Room k callerA)
    (F : ∀ base : Heap, K.In base → base.Ns mainGlobals mg → FnG P w K mg base CX k fa fd [x] sp) (hbind : ∀ (s : Shared) (u : Value), BindsTo s fd ⟨[u], []⟩ [(x, u)])
    (hsp : ∀ H : Hp, SqL K H a (ns.map V.int) → sp [.ref a] H (fun v _ => v = .bl true) E0) (hCX : ∀ H e s', CX [] H s₁ E0 e s' → False) :
    codeAny (model P w) callerA (.call (.ref fa) ⟨[.ref a], []⟩)
      (fun r s' => r = .ok (.ret (.bool true)) ∧ OldK s₁.heap s'.heap ∧ s'.os = s₁.os ∧ AllBare s'.gens) s₁ := by
  obtain ⟨H, EH⟩ := EntryHp.made KX ha hi hl
  -- what is no list of the script's stands in the heap without what is tracked
  have dicts : ∀ {b m}, s₁.heap.Ns b m → (hidT s₁.heap H).Ns b m := fun {b m} ⟨o, es, ep, e, d, r⟩ => by
    refine ⟨o, es, ep, hidT_get e ?_, d, r⟩
    rcases EH.one b with z | ⟨z, _⟩
    · exact z
    · rw [z, ha] at e
      cases e
      cases d
  have KB : K.In (hidT s₁.heap H) := fun b o e => hidT_get (KX b o e) (by
    rcases EH.one b with z | ⟨z, n, _⟩
    · exact z
    · rw [z, n] at e
      cases e)
  have ok : HOk P w H s₁.heap := fun b u e => by
    rcases EH.one b with z | ⟨z, _, q⟩
    · rw [z] at e
      cases e
    · rw [q] at e
      cases e
      subst z
      exact ⟨ha, by rw [List.length_map]; exact hl, vs, _, vals_ints hi, ha⟩
  obtain ⟨mc, l1, l2⟩ := hlim
  have e0 : Env0 P w K mg (hidT s₁.heap H) callerA [] s₁ H :=
    ⟨rfl, ⟨KB, dicts hns, ⟨mb, dicts hb, hbb⟩, ⟨mc, dicts l1, l2⟩⟩, fun _ _ e => of_hidT e, Nat.le_of_eq (hidT_size _ _), trivial, fun b hb => (List.not_mem_nil hb).elim, ok, .of_eq hg⟩
  refine codeAny_mono ((F _ KB (dicts hns)).goes callerA [] s₁ H ⟨[.ref a], []⟩ [.ref a] [.ref a] _ E0 rfl hr e0 (hbind s₁ (.ref a)) (.cons rfl .nil) (hsp H EH.seq)) fun r s' h => ?_
  rcases r with e | (_ | _ | _ | u)
  · exact (hCX H e s' h).elim
  · exact False.elim h
  · exact False.elim h
  · exact False.elim h
  obtain ⟨v, H', os, bare, un, ok', rv, q⟩ := h
  obtain rfl : v = .bl true := q
  obtain rfl : u = Value.bool true := rv
  refine ⟨rfl, OldK.of_keep (fun b o e => ?_), os, bare⟩
  rcases EH.one b with z | ⟨_, _, z⟩
  · exact un.keep b o e z (fun y => List.not_mem_nil y) (fun y => List.not_mem_nil y)
  · have e1 := (ok b _ z).1
    rw [e] at e1
    cases e1
    exact (ok' b _ (un.frzs b _ _ z)).1
end
/-- a law: G gives the written part, the function object, the promise over every base -/
theorem walk_ofG {l : PySem.W.OpenLaw} {n k : Nat} {q : Program} {loose : List Str} {XP : (Str → Option Value) → Heap → Prop} {YP : World → Heap → Prop} {d : DefRec} {CX : CXT} {x : Str}
    (hn : l.most = some n) (hn2 : n ≤ sizeLine)
    (hdf : d.params.defaults = []) (hr : Room k callerA)
    (G : ∀ (w : World) (mg : Str → Option Value) (fa : Addr) (h : Heap), YP w h → h.Ns mainGlobals mg → mg d.name = some (.ref fa) →
      ∃ (K : PySem.W.Frag) (fd : FuncData) (sp : Sp), K.In h ∧
        (∀ (s : Shared) (u : Value), BindsTo s fd ⟨[u], []⟩ [(x, u)]) ∧
        (∀ (H : Hp) (a : Addr) (ns : List Int), ns.length ≤ n → SqL K H a (ns.map V.int) → sp [.ref a] H (fun v _ => v = .bl true) E0) ∧
        ∀ base : Heap, K.In base → base.Ns mainGlobals mg → FnG l.prog w K mg base CX k fa fd [x] sp)
    (hCX : ∀ (H : Hp) (s : Shared) (e : Value) (s' : Shared), CX [] H s E0 e s' → False) : PySem.W.WalkO q loose XP YP l.row.toRowW d [] (fun f vs => PySem.call f vs) := by
  refine Att.attach_call hn hdf fun w s₀ s₁ mg mb fa o pm cd doc a vs ns T Y _ _ _ hmg hobj hints hlen hg => ?_
  obtain ⟨K, fd, sp, KX, hb, hsp, hF⟩ := G w mg fa _ Y T.T.g hmg
  exact law_callG KX T.T.g T.T.b T.T.builtins T.T.nolimit hg hobj hints (Nat.le_trans hlen hn2) hr hF hb (fun H hS => hsp H a ns hlen hS) fun H e s' => hCX H s₁ e s'
end L2
namespace He
open PySem PySem.Spec PyProof.Rows L2
/-! ### the head's facts with a check of one's own beside them; the dict of the loaded modules is part of what is read -/
abbrev AlX : Type := Bool × AlD
def obsX (xf : PySem.W.Frag → Bool) (fa : List Fa) (fn : List DefD) (K : PySem.W.Frag) : AlX := (xf K, obsD fa fn K)
def obsXG (n : Nat) (xf : PySem.W.Frag → Bool) (fa : List Fa) (fn : List DefD) (g : Addr → Option Obj) : AlX := obsX xf fa fn (frG g (sysModules :: asD g n))
def SaysX (xf : PySem.W.Frag → Bool) (fa : List Fa) (fn : List DefD) (K : PySem.W.Frag) : Prop := xf K = true ∧ SaysD fa fn K
def hookX (n : Nat) (xf : PySem.W.Frag → Bool) (fa : List Fa) (fn : List DefD) : PySem.W.Hook where
  α := AlX
  obs := fun s => obsXG n xf fa fn s.heap.get?
  val := fun _ => (true, valD fn)
  says := fun _ h => ∃ K : PySem.W.Frag, K.In h ∧ SaysX xf fa fn K
  of := fun _ _ e => ⟨_, frG_in, congrArg Prod.fst e, congrArg Prod.snd e⟩
  keeps := fun _ _ _ y k => y.imp fun _ z => ⟨PySem.W.Frag.In.keeps z.1 k, z.2⟩
theorem obsXG_eq {n : Nat} {xf : PySem.W.Frag → Bool} {fa : List Fa} {fn : List DefD} {g : Addr → Option Obj} {s : Shared} (h : ∀ a, g a = s.heap.get? a) : obsXG n xf fa fn g = (hookX n xf fa fn).obs s := by
  obtain rfl : g = s.heap.get? := funext h
  rfl
end He

/-! Readings, one construct at a time (for a tactic that goes on as long as one of these fits). -/
namespace Rd
open PySem PySem.Spec PyProof.Rows L2
section
variable {σ : L2.St} {H : Hp} {i : Nat} {v x y : V} {ta tb te : TE} {t tr : TA} {r : R2} {Q : VK} {QA : List V → Hp → Prop} {QB : Bool → Hp → Prop} {D : Ends} {t1 t2 : TS} {tt uu : TT} {xs : List V} {K : PySem.W.Frag} {f : Str} {te : TE}
theorem var (h : σ[i]? = some (some v)) (q : Q v H) : tVar i σ H Q := ⟨v, h, q⟩
theorem c (q : Q v H) : tC v σ H Q := q
theorem op (h : ta σ H fun x H1 => tb σ H1 fun y H2 => r x y H2 Q) : tOp r ta tb σ H Q := h
theorem un {ru : V → Hp → VK → Prop} (h : ta σ H fun x H1 => ru x H1 Q) : tUn ru ta σ H Q := h
theorem cb {rc : List V → Hp → VK → Prop} (h : t σ H fun vs H1 => rc vs H1 Q) : tCB rc t σ H Q := h
theorem cons (h : ta σ H fun x H1 => tr σ H1 fun xs H2 => QA (x :: xs) H2) : tCons ta tr σ H QA := h
theorem nil (h : QA [] H) : tNil σ H QA := h
theorem ifx (h : tt σ H fun c H1 => if c = true then ta σ H1 Q else tb σ H1 Q) : tIf tt ta tb σ H Q := h
theorem test (h : te σ H fun x H1 => ∃ k, x = .bl k ∧ QB k H1) : tTest te σ H QB := h
theorem testB (h : te σ H fun x H1 => ∃ k, x = .bl k ∧ QB k H1) : tB te σ H QB := h
theorem isB {k : Bool} {P : Bool → Prop} (h : P k) : ∃ k', V.bl k = .bl k' ∧ P k' := ⟨k, rfl, h⟩
theorem i0 {g : Int → Int → V} {a b : Int} (q : Q (g a b) H) : rI0 g (.int a) (.int b) H Q := ⟨a, b, rfl, rfl, q⟩
theorem iC {C : Int → Int → Prop} {g : Int → Int → V} {a b : Int} (h : C a b) (q : Q (g a b) H) : rI C g (.int a) (.int b) H Q := ⟨a, b, rfl, rfl, h, q⟩
theorem neg {a : Int} (q : Q (.int (-a)) H) : rU (fun i => .int (-i)) (.int a) H Q := ⟨a, rfl, q⟩
theorem lst (h : t σ H fun xs H1 => xs.length ≤ sizeLine ∧ ∀ p, H1 p = none → Q (.ref p) (upd H1 p (.lst xs))) : tLst t σ H Q := h
theorem tup (h : t σ H fun xs H1 => xs.length ≤ sizeLine ∧ ∀ p, H1 p = none → Q (.ref p) (upd H1 p (.tup xs))) : tTup t σ H Q := h
theorem small {n : Nat} (h : n ≤ 100000) : n ≤ sizeLine := Nat.le_trans h (by decide)
theorem seq (h : t1 { D with nx := t2 D } σ H) : tSeq t1 t2 D σ H := h
theorem asg (h : te σ H fun x H1 => D.nx (σ.set i (some x)) H1) : tAsg te (gName i) D σ H := h
theorem asgG {g : TG} (h : te σ H fun x H1 => g x σ H1 D.nx) : tAsg te g D σ H := h
theorem gNm {P : L2.St → Hp → Prop} (h : P (σ.set i (some v)) H) : gName i v σ H P := h
theorem gSb {ts : TSet} {P : L2.St → Hp → Prop} (h : ta σ H fun o H1 => tb σ H1 fun i H2 => ts o i v H2 fun H3 => P σ H3) : gSub ta tb ts v σ H P := h
theorem setL {p : Addr} {k : Int} {j : Nat} {P : Hp → Prop} (h : H p = some (.lst xs)) (e : ixN xs.length k = some j) (q : P (upd H p (.lst (xs.set j v)))) : rSetL (.ref p) (.int k) v H P := ⟨p, xs, k, j, rfl, rfl, h, e, q⟩
theorem gC {t : TG} {u : TGs} {vs : List V} {P : L2.St → Hp → Prop} (h : t v σ H fun s1 H1 => u vs s1 H1 P) : gCons t u (v :: vs) σ H P := ⟨v, vs, rfl, h⟩
theorem gN {P : L2.St → Hp → Prop} (h : P σ H) : gNil [] σ H P := ⟨rfl, h⟩
theorem lcl {tl : TE} {g : TG} {vs : List Nat} (h : tl σ H fun x H1 => ∃ a, x = .ref a ∧ (∃ xs, SqL K H1 a xs) ∧ ∀ D, H1 D = none → ∃ W : Nat → Nat → Hp → Prop, (∃ m, W 0 m (upd H1 D (.lst []))) ∧ ∀ i m H, W i m H →
    ((Itl K a).stop i H ∧ Q (.ref D) H) ∨ ((Itl K a).go i H ∧ ∃ Nx : Hp → Prop, (∀ H', Nx H' → ∃ m', m' < m ∧ W (i + 1) m' H') ∧ ∀ x H', (Itl K a).yld i H x H' → g x (wipe σ vs) H' fun σ2 H2 => wipe σ2 vs = wipe σ vs ∧ tt σ2 H2 fun b H3 =>
      if b = true then te σ2 H3 fun y H4 => ∃ acc, H4 D = some (.lst acc) ∧ acc.length < sizeLine ∧ Nx (upd H4 D (.lst (acc ++ [y]))) else Nx H3)) : tLc (iList K tl) g tt te vs σ H Q := h
theorem ret (h : te σ H D.rt) : tRet te D σ H := h
theorem nxt (h : D.nx σ H) : tNext D σ H := h
theorem ifS (h : tt σ H fun b H1 => if b = true then t1 D σ H1 else t2 D σ H1) : tIfS tt t1 t2 D σ H := h
theorem notT (h : tt σ H fun b H1 => QB (!b) H1) : tNot tt σ H QB := h
theorem eqS (h : scal x y = true) (q : Q (.bl (decide (x = y))) H) : rEq x y H Q := ⟨h, q⟩
theorem neS (h : scal x y = true) (q : Q (.bl (!decide (x = y))) H) : rNe x y H Q := ⟨h, q⟩
theorem ixL {p : Addr} {a : Int} (h : SqL K H p xs) (e : atI xs a = some v) (q : Q v H) : rIxL K (.ref p) (.int a) H Q := ⟨p, xs, a, v, rfl, rfl, h, e, q⟩
theorem ifB {k : Bool} {A B : Prop} (h1 : k = true → A) (h2 : k = false → B) : if k = true then A else B := by
  cases k with
  | true => exact iteT (h1 rfl)
  | false => exact iteF (h2 rfl)
theorem call {sp : Sp} {E : XK} (h : t σ H fun vs H1 => sp (vs ++ []) H1 Q E) : tCall sp [] E t σ H Q := h
end
end Rd

/-! A try of several clauses `except C as n`: each clause is a link of its own, so that they chain to any length. -/
namespace L2
open PySem PySem.Spec PyProof.Rows
section
variable {X : Cx} {pins : List (Addr × Obj)} {σ : St} {H : Hp} {cls : Value} {d : Option Addr} {a : Addr} {B : Heap} {s₀ s : Shared}
/-- the exception at a stands caught in s; s₀ is the state that was known when it was thrown -/
structure Caught (X : Cx) (pins : List (Addr × Obj)) (σ : St) (H : Hp) (cls : Value) (d : Option Addr) (a : Addr) (B : Heap) (s₀ s : Shared) : Prop where
  inv : Inv X pins σ H s₀
  own : ∀ b o, s₀.heap.get? b = some o → b ∉ frs X.stack → B.get? b = some o
  up : s₀.heap.UpToSlots s.heap
  fly : HandSPX.FlyingZ B X.stack a (Zc cls d) s.heap
  new : H a = none
  os : s.os = s₀.os
  bare : AllBare s.gens
theorem Caught.now (c : Caught X pins σ H cls d a B s₀ s) : Inv X pins σ H s := c.inv.landed c.own c.fly.1 c.up c.os c.bare
theorem Caught.on (c : Caught X pins σ H cls d a B s₀ s) {h : Heap} (f : HandSPX.FlyingZ B X.stack a (Zc cls d) h) (u : s.heap.UpToSlots h) : Caught X pins σ H cls d a B s₀ { s with heap := h } :=
  { c with up := c.up.trans u, fly := f }
/-- what a suite of such an exception begins with -/
theorem Caught.inside (c : Caught X pins σ H cls d a B s₀ s) (hf : X.env.frame = some X.env.locals) (hs : X.stack = X.env :: X.outer) :
    ∃ oe, Zc cls d oe ∧ (∃ vs, oe.data = .fields vs) ∧ s.heap.get? a = some oe ∧ Inv (X.suite a ((a, oe) :: (X.pn ++ pins))) [] σ H s := by
  obtain ⟨oe, vs, ea, ez, ed⟩ := c.fly.there
  have far : a ∉ frs (X.env :: X.outer) := fun m => by
    obtain ⟨_, o, e, n⟩ := (hs ▸ c.fly.2.2.1 : s.heap.FunFrames B (X.env :: X.outer)).mem m
    rw [ea] at e
    exact n vs (Option.some.inj e ▸ ed)
  refine ⟨oe, ez, ⟨vs, ed⟩, ea, c.now.suite ea ed c.new (fun e => far ?_) fun m => far ?_⟩
  · exact List.mem_filterMap.mpr ⟨X.env, List.mem_cons_self, e ▸ hf⟩
  · obtain ⟨y, hy, z⟩ := List.mem_filterMap.mp m
    exact List.mem_filterMap.mpr ⟨y, List.mem_cons_of_mem _ hy, z⟩
end
section
variable {X : Cx} {hds : List ExceptHandler} {x n : Str} {c : Value} {i : Nat} {body suite : List Stmt} {b₀ : Stmt} {h₀ : ExceptHandler} {np pos pos' : Pos} {tb : WX → TS} {ts : Addr → Value → Option Addr → TS} {Wout : WX} {W : Ends → WX}
/-- the clauses answer every caught exception of which W is true -/
def Clauses (X : Cx) (hds : List ExceptHandler) (W : Ends → WX) : Prop := ∀ (pins : List (Addr × Obj)) (D : Ends) (σ : St) (H : Hp) (cls : Value) (d : Option Addr) (a : Addr) (B : Heap) (s₀ s : Shared),
  Caught X pins σ H cls d a B s₀ s → W D cls d σ H → wpAny (model X.prog X.w) X.A (handleBy (.ref a) X.env hds) (SP X pins D) X.xe s
/-- no clause is left: it goes on -/
theorem clauses_nil (hf : X.env.frame = some X.env.locals) (tk : Takes X Wout) : Clauses X [] fun _ => Wout := by
  intro pins D σ H cls d a B s₀ s c w
  obtain ⟨_, _, _, oe, vs, t, _, _, ea, _, ed, e1, _⟩ := id c.fly
  have out : wpAny (model X.prog X.w) X.A (setFlight (.ref a) X.env.frame) (fun _ s' => wpAny (model X.prog X.w) X.A (throw (.ref a) : Sem Flow) (SP X pins D) X.xe s') X.xe s := hf ▸
    HandSPX.setFlight_upZ c.fly fun h' hh u => wpAny_throw (tk _ _ ⟨a, B, s₀, pins, σ, H, cls, d, rfl, c.inv, c.own, c.up.trans u, .inr (.inr hh), c.new, c.os, c.bare, w⟩)
  refine wpAny_handleBy_nil ?_
  show wpAny _ _ (passOn _ _ _) _ _ _
  unfold PySem.passOn
  refine wpAny_bind (wpAny_field ea ed e1 ?_)
  rw [if_neg (show ¬ ((Value.ref t == Value.none) = true) by simp)]
  first
    | exact wpAny_bind out
    | exact wpAny_bind (wpAny_pure (wpAny_bind out))
/-- a clause `except x as n: suite`, n in slot i, before further ones -/
theorem clauses_as (hs : X.stack = X.env :: X.outer) (hf : X.env.frame = some X.env.locals) (hN : X.N.Nodup) (hi : X.N[i]? = some n) (hln : X.env.kindOf n = some .local) (hc : Names X x c)
    (hsu : ∀ (a : Addr) (oe : Obj) (cls : Value) (d : Option Addr) (pn : List (Addr × Obj)), Zc cls d oe → (∃ vs, oe.data = .fields vs) → PSs (X.suite a ((a, oe) :: pn)) (b₀ :: suite) (ts a cls d)) (r : Clauses X hds W) :
    Clauses X (.ExceptHandler (some (.Name x np)) (some n) (b₀ :: suite) pos' :: hds) fun D => wAs X.K c i ts (W D) D := by
  intro pins D σ H cls d a B s₀ s k w
  obtain ⟨b, hb, yes, no⟩ := w
  obtain ⟨oe, ez, ed, ea, inn⟩ := k.inside hf hs
  refine wpAny_handleBy_cons (codeAny_handlers_test ?_) fun q => nomatch q
  have asks : ∀ {Q : Value → Shared → Prop} {E : Value → Shared → Prop}, Q c s → wpAny (model X.prog X.w) (X.A.mark (some (.ref a))) (eval (.Name x np) X.env) Q E s := fun q =>
    match hc with
    | ⟨g, db, .inl m⟩ => ld_glob (X := X.suite a ((a, oe) :: (X.pn ++ pins))) inn g m q db
    | ⟨g, db, .inr ⟨m, v, nn⟩⟩ => ld_blt (X := X.suite a ((a, oe) :: (X.pn ++ pins))) inn g m v q nn db
  refine asks ((PySem.W.exm_one (M := model X.prog X.w) k.now.kIn (fun A Q E s' l q => wpAny_typeOf_ref (l _ _ ea) (by rw [ez.1]; exact q)) hb).here ?_)
  cases b with
  | false => exact r pins D σ H cls d a B s₀ s k (no rfl)
  | true =>
    refine codeAny_handlers_suite_as (HandSPX.lands_againZ k.fly fun h' f' u' => ?_)
    have k' := k.on f' u'
    obtain ⟨oe', ez', ed', ea', inn'⟩ := k'.inside hf hs
    refine store_ok (X := X.suite a ((a, oe') :: (X.pn ++ pins))) (v := .ref a) inn' hN hi (.inl hln) rfl (fun s1 J => ?_) (.inr hln)
    refine wpAny_mono ((hsu a oe' cls d (X.pn ++ pins) ez' ed').run [] s1 _ H _ J (yes rfl a k.new)) (fun fl s2 q => ?_) fun _ _ z => z.elim
    rcases fl with _ | _ | _ | v
    · obtain ⟨σ2, H2, J2, z⟩ := q
      exact gone_ok (J2.unsuite k.inv.ok) hN hi hln fun s3 J3 => ⟨_, _, J3, z⟩
    · obtain ⟨σ2, H2, J2, z⟩ := q
      exact gone_ok (J2.unsuite k.inv.ok) hN hi hln fun s3 J3 => ⟨_, _, J3, z⟩
    · obtain ⟨σ2, H2, J2, z⟩ := q
      exact gone_ok (J2.unsuite k.inv.ok) hN hi hln fun s3 J3 => ⟨_, _, J3, z⟩
    · obtain ⟨y, σ2, H2, J2, ry, z⟩ := q
      exact gone_ok (J2.unsuite k.inv.ok) hN hi hln fun s3 J3 => ⟨_, _, _, J3, ry, z⟩
/-- try: body, then the clauses -/
theorem ps_try_cl (hs : X.stack = X.env :: X.outer) (hf : X.env.frame = some X.env.locals)
    (hb : ∀ (W : WX) (pn : List (Addr × Obj)) (xe : Value → Shared → Prop), Takes (X.tr pn xe) W →
      PassesOwn (model X.prog X.w) X.A X.env xe → PSs (X.tr pn xe) body (tb W))
    (hc : Clauses X (h₀ :: hds) W) : PS X (.Try body (h₀ :: hds) [] [] pos) (fun D σ H => tb (W D) D σ H) := by
  refine ⟨fun pins s σ H D I h => wpAny_Try_except ?_⟩
  refine wpAny_mono ((hb (W D) (X.pn ++ pins) (fun e s₁ => wpAny (model X.prog X.w) X.A (noteFrame e X.env) (fun _ s₂ => wpAny (model X.prog X.w) X.A (setFlight e none) (fun _ s₃ =>
    wpAny (model X.prog X.w) X.A (handleBy e X.env (h₀ :: hds)) (SP X pins D) X.xe s₃) X.xe s₂) X.xe s₁) (fun u s' z => ?_) PassesOwn.looking).run [] s σ H D (I.toTry _) h) (fun fl s1 q => ?_) fun _ _ z => z
  · obtain ⟨a, B, sI, pn', σ', H', cls, d, rfl, J, own, up, sky, na, os, ag, w⟩ := z
    refine Sky.land Zc.steady (I.ok.frames.trans (congrArg some hs)) hf (hs ▸ sky) fun h' f' u' => ?_
    exact hc pins D σ' H' cls d a B sI _ ⟨J.ofTry I.ok, own, up.trans u', hs ▸ f', na, os, ag⟩ w
  · rcases fl with _ | _ | _ | v
    · obtain ⟨σ2, H2, J, z⟩ := q
      exact wpAny_execs_nil ⟨σ2, H2, J.ofTry I.ok, z⟩
    · obtain ⟨σ2, H2, J, z⟩ := q
      exact ⟨σ2, H2, J.ofTry I.ok, z⟩
    · obtain ⟨σ2, H2, J, z⟩ := q
      exact ⟨σ2, H2, J.ofTry I.ok, z⟩
    · obtain ⟨y, σ2, H2, J, ry, z⟩ := q
      exact ⟨y, σ2, H2, J.ofTry I.ok, ry, z⟩
end
end L2

namespace K15
open PySem PySem.Spec PyProof.Rows L2
local macro_rules | `(tactic| walk_at "rd1") => `(tactic| first
  | (with_reducible refine Rd.seq ?_) | (with_reducible refine Rd.asg ?_) | (with_reducible refine Rd.ret ?_) | (with_reducible refine Rd.nxt ?_) | (with_reducible refine Rd.ifS ?_)
  | (with_reducible refine Rd.op ?_) | (with_reducible refine Rd.un ?_) | (with_reducible refine Rd.cb ?_) | (with_reducible refine Rd.cons ?_) | (with_reducible refine Rd.nil ?_) | (with_reducible refine Rd.ifx ?_)
  | (with_reducible refine Rd.test ?_) | (with_reducible refine Rd.testB ?_) | (with_reducible refine Rd.notT ?_) | (with_reducible refine Rd.isB ?_) | (with_reducible refine Rd.lst ?_) | (with_reducible refine Rd.tup ?_)
  | (with_reducible refine Rd.call ?_) | (with_reducible refine Rd.asgG ?_) | (with_reducible refine Rd.gNm ?_) | (with_reducible refine Rd.gSb ?_) | (with_reducible refine Rd.gC ?_) | (with_reducible refine Rd.gN ?_)
  | ((with_reducible refine' Rd.var ?hv ?_); (case hv => exact rfl)) | (with_reducible refine Rd.c ?_) | (with_reducible refine Rd.i0 ?_) | (with_reducible refine Rd.neg ?_)
  | ((with_reducible refine' Rd.iC ?hc ?_); (case hc => first | (show (0 : Int) < _; decide) | exact ⟨by decide, by decide⟩ | exact ⟨by decide, by decide, by decide⟩ | exact .inl ⟨by decide, by decide⟩ | exact .inr ⟨by decide, by decide⟩ | exact .inl ⟨by omega, by omega⟩ | (show (0 : Int) < _; omega) | exact ⟨by omega, by omega⟩))
  | ((with_reducible refine' Rd.eqS ?hc ?_); (case hc => rfl)) | ((with_reducible refine' Rd.neS ?hc ?_); (case hc => rfl)))
local macro_rules | `(tactic| walk_at "rd") => `(tactic| repeat walk_at "rd1")
def topA (i : Nat) : Stmt := PySem.Challenge.pw_belowneeds_k15_errors_created.main.body.getD i (.Pass ⟨0, 0, 0, 0⟩)
abbrev sPot : Stmt := topA 38
abbrev sDraw : Stmt := topA 39
abbrev sPick : Stmt := topA 40
abbrev FnP (K : PySem.W.Frag) (x : Str) (st : Stmt) (f : Addr) (fd : FuncData) : Prop := FunD K x x (defArgs st) (defBody st) (defScope st) [] [] f fd
/-- all but p as it was -/
def But (p : Addr) (H H' : Hp) : Prop := ∀ b o, b ≠ p → H b = some o → H' b = some o
theorem But.refl {p : Addr} {H : Hp} : But p H H := fun _ _ _ h => h
theorem But.trans {p : Addr} {H H1 H2 : Hp} (a : But p H H1) (b : But p H1 H2) : But p H H2 := fun c o h e => b c o h (a c o h e)
theorem But.new {p q : Addr} {H : Hp} {o : HO} (h : H q = none) : But p H (upd H q o) := fun b u _ e => by rw [upd_ne (ne_of_none e h)]; exact e
theorem But.set {p : Addr} {H : Hp} {o : HO} : But p H (upd H p o) := fun b u hb e => by rw [upd_ne hb]; exact e
/-- a pot of numbers that are left to be drawn -/
def PotAt (H : Hp) (p : Addr) : Prop := ∃ x y : Int, H p = some (.lst [.int x, .int y]) ∧ 0 ≤ x ∧ 0 ≤ y ∧ y < 2147483648
/-! ### promises -/
def spPot (K : PySem.W.Frag) : Sp := fun vs H Q _ => ∃ (a : Addr) (ns : List Int) (k : Nat), vs = [.ref a, .int k] ∧ SqL K H a (ns.map V.int) ∧ ns.length ≤ 63 ∧ k < 1000 ∧ ∀ p H', H p = none → Same H H' → PotAt H' p → Q (.ref p) H'
def spDraw : Sp := fun vs H Q _ => ∃ (p : Addr) (m : Int), vs = [.ref p, .int m] ∧ PotAt H p ∧ 0 < m ∧ m < 1000000 ∧ ∀ (d : Int) H', 0 ≤ d → d < m → PotAt H' p → But p H H' → Q (.int d) H'
def spPick (K : PySem.W.Frag) : Sp := fun vs H Q _ => ∃ (p l : Addr) (xs : List V), vs = [.ref p, .ref l] ∧ PotAt H p ∧ H l = some (.lst xs) ∧ l ≠ p ∧ xs ≠ [] ∧ xs.length < 1000000 ∧ ∀ v H', v ∈ xs → PotAt H' p → But p H H' → Q v H'
section
variable {P : Program} {w : World} {K : PySem.W.Frag} {mg : Str → Option Value} {base : Heap} {f fP fD : Addr} {fd fdP fdD : FuncData}
theorem scPot : FnScope ["_law_script", "_law_k", "_law_cell"] ["_law_script", "_law_k"] (defScope sPot) := ⟨rfl, rfl, rfl, by decide +kernel, rfl, by decide +kernel, by decide +kernel⟩
theorem ok_pot (F : FnP K "_law_pot" sPot f fd) (gLen : mg "len" = none) (gAbs : mg "abs" = none) (gMax : mg "max" = none) (gInt : mg "int" = none) : FnOk P w K mg base CX0 1 f fd ["_law_script", "_law_k"] (spPot K) := by
  refine F.ok scPot (fun vs H Q E h => ?_) (fun cdv A outer s H vs Q E hr h => ?_)
  · obtain ⟨a, ns, k, rfl, _⟩ := h
    rfl
  · obtain ⟨a, ns, k, rfl, hS, hl, k1, q⟩ := h
    refine ⟨_, PSs.nox (pss_cons (ps_set (i := 2) scPot.nd rfl (Or.inl rfl) (pe_ifExp (pt_cmpR op_lt (pv 1) (pe_callB call_len rfl gLen boot_len (pa_cons (pv 0) pa_nil)) (nomark _))
        (pe_callB call_abs rfl gAbs boot_abs (pa_cons (pe_ix ix_list (pv 0) (pv 1) (fun _ _ => rfl)) pa_nil)) (pe_op op_add (pe_op op_mul pe_int (pv 1)) pe_int)))
      (pss_one (ps_ret (pe_lst (pa_cons (pe_callB (call_max2 rfl) rfl gMax boot_max (pa_cons pe_int (pa_cons (pe_op op_sub (pv 2) (pe_op op_pow pe_int pe_int)) pa_nil)))
        (pa_cons (pe_op op_add (pe_op op_mod (pe_callTy call_int1 rfl gInt boot_int (pa_cons (pe_op op_add (pe_op op_add (pe_op op_mul (pe_op op_mod (pe_callTy call_int1 rfl gInt boot_int (pa_cons (pv 2) pa_nil)) pe_int) pe_int) (pe_op op_mul pe_int (pv 1))) pe_int) pa_nil)) pe_int) pe_int) pa_nil)))))), ?_⟩
    walk_at "rd"
    refine ⟨_, _, rfl, .inl ⟨_, hS, rfl⟩, ?_⟩
    walk_at "rd"
    have hz : ∀ z : Int, 0 ≤ (if z < 0 then -z else z) := fun z => by split <;> omega
    refine Rd.ifB (fun ht => ?_) (fun ht => ?_)
    · have hk : k < ns.length := by
        have z := of_decide_eq_true ht
        rw [List.length_map] at z
        omega
      walk_at "rd"
      refine ⟨a, _, (k : Int), V.int ns[k], rfl, rfl, hS, atI_nat (by rw [List.getElem?_map, List.getElem?_eq_getElem hk]; rfl), ?_⟩
      walk_at "rd"
      refine ⟨_, rfl, ?_⟩
      have hc := hz ns[k]
      generalize (if ns[k] < 0 then -ns[k] else ns[k]) = c at hc ⊢
      walk_at "rd"
      refine ⟨_, _, rfl, ?_⟩
      walk_at "rd"
      refine .inl ⟨_, rfl, ?_⟩
      walk_at "rd"
      refine .inl ⟨_, rfl, ?_⟩
      walk_at "rd"
      refine ⟨Rd.small (by show 2 ≤ 100000; decide), fun p hp => q p _ hp (fun b u e => by rw [upd_ne (ne_of_none e hp)]; exact e) ⟨_, _, upd_same, by split <;> omega, by omega, by omega⟩⟩
    · walk_at "rd"
      have hc : (0 : Int) ≤ 11 * (k : Int) + 6 := by omega
      generalize 11 * (k : Int) + 6 = c at hc ⊢
      refine ⟨_, _, rfl, ?_⟩
      walk_at "rd"
      refine .inl ⟨_, rfl, ?_⟩
      walk_at "rd"
      refine .inl ⟨_, rfl, ?_⟩
      walk_at "rd"
      refine ⟨Rd.small (by show 2 ≤ 100000; decide), fun p hp => q p _ hp (fun b u e => by rw [upd_ne (ne_of_none e hp)]; exact e) ⟨_, _, upd_same, by split <;> omega, by omega, by omega⟩⟩
theorem scDraw : FnScope ["_law_pot_here", "_law_many", "_law_digit"] ["_law_pot_here", "_law_many"] (defScope sDraw) := ⟨rfl, rfl, rfl, by decide +kernel, rfl, by decide +kernel, by decide +kernel⟩
theorem ok_draw (F : FnP K "_law_draw" sDraw f fd) (gDiv : mg "divmod" = none) (gInt : mg "int" = none) : FnOk P w K mg base CX0 1 f fd ["_law_pot_here", "_law_many"] spDraw := by
  refine F.ok scDraw (fun vs H Q E h => ?_) (fun cdv A outer s H vs Q E hr h => ?_)
  · obtain ⟨p, m, rfl, _⟩ := h
    rfl
  · obtain ⟨p, m, rfl, ⟨x, y, hp, hx, hy, hy2⟩, m0, m1, q⟩ := h
    refine ⟨_, PSs.nox (pss_cons (ps_if (pt_cmpR op_gt (pe_ix ix_list (pv 0) pe_int (fun _ _ => rfl)) pe_int (nomark _))
        (pss_cons (ps_asg (pe_callB call_divmod rfl gDiv boot_divmod (pa_cons (pe_ix ix_list (pv 0) pe_int (fun _ _ => rfl)) (pa_cons (pv 1) pa_nil)))
          (pg_tup rfl (pgs_cons (pg_sub (pv 0) pe_int set_list) (pgs_cons (pg_name (i := 2) scDraw.nd rfl (Or.inl rfl)) pgs_nil)))) (pss_one (ps_ret (pv 2)))) pss_nil)
      (pss_cons (ps_asg (pe_op op_mod (pe_callTy call_int1 rfl gInt boot_int (pa_cons (pe_op op_add (pe_op op_mul (pe_ix ix_list (pv 0) pe_int (fun _ _ => rfl)) pe_int) pe_int) pa_nil)) pe_int) (pg_sub (pv 0) pe_int set_list))
      (pss_one (ps_ret (pe_op op_mod (pe_callTy call_int1 rfl gInt boot_int (pa_cons (pe_op op_fdiv (pe_op op_mod (pe_callTy call_int1 rfl gInt boot_int (pa_cons (pe_op op_mul (pe_ix ix_list (pv 0) pe_int (fun _ _ => rfl)) (pe_ix ix_list (pv 0) pe_int (fun _ _ => rfl))) pa_nil)) pe_int) pe_int) pa_nil)) (pv 1)))))), ?_⟩
    walk_at "rd"
    refine Rd.ixL (SqL.of hp) (atI_nat (j := 0) rfl) ?_
    walk_at "rd"
    refine Rd.ifB (fun ht => ?_) (fun ht => ?_)
    · have hx0 : 0 < x := of_decide_eq_true ht
      walk_at "rd"
      refine Rd.ixL (SqL.of hp) (atI_nat (j := 0) rfl) ?_
      walk_at "rd"
      refine ⟨_, _, rfl, ⟨m0, by omega⟩, fun t ht => ?_⟩
      have npt : p ≠ t := ne_of_none hp ht
      refine ⟨t, _, rfl, SqT.of upd_same, rfl, ?_⟩
      walk_at "rd"
      refine Rd.setL (xs := [.int x, .int y]) (j := 0) (by rw [upd_ne npt]; exact hp) rfl ?_
      walk_at "rd"
      refine q _ _ (Int.emod_nonneg _ (by omega)) (Int.emod_lt_of_pos _ m0) ⟨_, _, upd_same, Int.ediv_nonneg hx (by omega), hy, hy2⟩ ?_
      exact But.trans (But.new ht) But.set
    · walk_at "rd"
      refine Rd.ixL (SqL.of hp) (atI_nat (j := 1) rfl) ?_
      walk_at "rd"
      refine .inl ⟨_, rfl, ?_⟩
      walk_at "rd"
      refine Rd.setL (j := 1) hp rfl ?_
      walk_at "rd"
      have z0 : 0 ≤ (y * 39373 + 12227) % 2147483587 := by omega
      have z1 : (y * 39373 + 12227) % 2147483587 < 2147483587 := by omega
      generalize (y * 39373 + 12227) % 2147483587 = z at z0 z1 ⊢
      have hp2 : upd H p (.lst ([V.int x, V.int y].set 1 (V.int z))) p = some (.lst [.int x, .int z]) := upd_same
      refine Rd.ixL (SqL.of hp2) (atI_nat (j := 1) rfl) ?_
      walk_at "rd"
      refine Rd.ixL (SqL.of hp2) (atI_nat (j := 1) rfl) ?_
      walk_at "rd"
      refine .inl ⟨_, rfl, ?_⟩
      walk_at "rd"
      refine .inl ⟨_, rfl, ?_⟩
      walk_at "rd"
      exact q _ _ (Int.emod_nonneg _ (by omega)) (Int.emod_lt_of_pos _ m0) ⟨_, _, hp2, hx, z0, by omega⟩ But.set
theorem scPick : FnScope ["_law_pot_here", "_law_some"] ["_law_pot_here", "_law_some"] (defScope sPick) := ⟨rfl, rfl, rfl, by decide +kernel, rfl, by decide +kernel, by decide +kernel⟩
theorem ok_pick (F : FnP K "_law_pick" sPick f fd) (FD : FnP K "_law_draw" sDraw fD fdD) (gDraw : mg "_law_draw" = some (.ref fD)) (gLen : mg "len" = none) (gDiv : mg "divmod" = none) (gInt : mg "int" = none) : FnOk P w K mg base CX0 2 f fd ["_law_pot_here", "_law_some"] (spPick K) := by
  have GD : FnOk P w K mg base CX0 1 fD fdD ["_law_pot_here", "_law_many"] spDraw := ok_draw FD gDiv gInt
  have bD : Binds K fdD ["_law_pot_here", "_law_many"] [] := FD.bindsN fun _ _ _ _ _ _ us hl => match us, hl with | [_, _], _ => rfl
  refine F.ok scPick (fun vs H Q E h => ?_) (fun cdv A outer s H vs Q E hr h => ?_)
  · obtain ⟨p, l, xs, rfl, _⟩ := h
    rfl
  · obtain ⟨p, l, xs, rfl, hp, hl, nlp, hne, hz, q⟩ := h
    refine ⟨_, PSs.nox (pss_one (ps_ret (pe_ix ix_list (pv 1) (pe_call GD hr rfl gDraw FD.kp bD .nil pass0 (pa_cons (pv 0) (pa_cons (pe_callB call_len rfl gLen boot_len (pa_cons (pv 1) pa_nil)) pa_nil))) (fun _ _ => rfl)))), ?_⟩
    walk_at "rd"
    refine ⟨_, _, rfl, .inl ⟨_, SqL.of hl, rfl⟩, ?_⟩
    walk_at "rd"
    have h0 : 0 < xs.length := List.length_pos_iff.mpr hne
    refine ⟨p, _, rfl, hp, by omega, by omega, fun d H1 d0 d1 hp1 hb => ?_⟩
    obtain ⟨j, rfl⟩ := Int.eq_ofNat_of_zero_le d0
    have hj : j < xs.length := by omega
    refine Rd.ixL (SqL.of (hb l _ nlp hl)) (atI_nat (List.getElem?_eq_getElem hj)) ?_
    exact q _ _ (List.getElem_mem hj) hp1 hb
end
end K15

namespace K15
open PySem PySem.Spec PyProof.Rows L2
local macro_rules | `(tactic| walk_at "rd1") => `(tactic| first
  | (with_reducible refine Rd.seq ?_) | (with_reducible refine Rd.asg ?_) | (with_reducible refine Rd.ret ?_) | (with_reducible refine Rd.nxt ?_) | (with_reducible refine Rd.ifS ?_)
  | (with_reducible refine Rd.op ?_) | (with_reducible refine Rd.un ?_) | (with_reducible refine Rd.cb ?_) | (with_reducible refine Rd.cons ?_) | (with_reducible refine Rd.nil ?_) | (with_reducible refine Rd.ifx ?_)
  | (with_reducible refine Rd.test ?_) | (with_reducible refine Rd.testB ?_) | (with_reducible refine Rd.notT ?_) | (with_reducible refine Rd.isB ?_) | (with_reducible refine Rd.lst ?_) | (with_reducible refine Rd.tup ?_)
  | (with_reducible refine Rd.call ?_) | (with_reducible refine Rd.asgG ?_) | (with_reducible refine Rd.gNm ?_) | (with_reducible refine Rd.gSb ?_) | (with_reducible refine Rd.gC ?_) | (with_reducible refine Rd.gN ?_)
  | ((with_reducible refine' Rd.var ?hv ?_); (case hv => exact rfl)) | (with_reducible refine Rd.c ?_) | (with_reducible refine Rd.i0 ?_) | (with_reducible refine Rd.neg ?_)
  | ((with_reducible refine' Rd.iC ?hc ?_); (case hc => first | (show (0 : Int) < _; decide) | exact ⟨by decide, by decide⟩ | exact ⟨by decide, by decide, by decide⟩ | exact .inl ⟨by decide, by decide⟩ | exact .inr ⟨by decide, by decide⟩ | exact .inl ⟨by omega, by omega⟩ | (show (0 : Int) < _; omega) | exact ⟨by omega, by omega⟩))
  | ((with_reducible refine' Rd.eqS ?hc ?_); (case hc => rfl)) | ((with_reducible refine' Rd.neS ?hc ?_); (case hc => rfl)))
local macro_rules | `(tactic| walk_at "rd") => `(tactic| repeat walk_at "rd1")

abbrev sOdd : Stmt := topA 41
/-- a datum that is shown in few signs -/
def good (d : PyData) : Prop := d.showable = true ∧ d.depth ≤ 3 ∧ d.shown.length ≤ 100
def spOdd (K : PySem.W.Frag) : Sp := fun vs H Q _ => ∃ p : Addr, vs = [.ref p] ∧ PotAt H p ∧ ∀ v d H', Dd K (del H' p) v d → good d → PotAt H' p → But p H H' → Q v H'
theorem same_new {H : Hp} {q : Addr} {o : HO} (h : H q = none) : Same H (upd H q o) := fun b u e => by rw [upd_ne (ne_of_none e h)]; exact e
theorem butS {p : Addr} {H H' : Hp} (h : Same H H') : But p H H' := fun b o _ e => h b o e
theorem del_at {H : Hp} {a b : Addr} {o : HO} (h : b ≠ a) (e : H b = some o) : del H a b = some o := (del_ne h).trans e
theorem PotAt.same {p : Addr} {H H' : Hp} (h : PotAt H p) (e : Same H H') : PotAt H' p := by
  obtain ⟨x, y, a, b⟩ := h
  exact ⟨x, y, e _ _ a, b⟩
section
variable {P : Program} {w : World} {K : PySem.W.Frag} {mg : Str → Option Value} {base : Heap} {f fP fD : Addr} {fd fdP fdD : FuncData}
theorem scOdd : FnScope ["_law_pot_here", "_law_number"] ["_law_pot_here"] (defScope sOdd) := ⟨rfl, rfl, rfl, by decide +kernel, rfl, by decide +kernel, by decide +kernel⟩
theorem num_good {H : Hp} {v : V} (h : v ∈ [V.int 0, .int 1, .int (-1), .int (10 ^ Int.toNat 60), .bl true, .bl false]) : ∃ d, Dd K H v d ∧ good d := by
  simp only [List.mem_cons, List.not_mem_nil, or_false] at h
  rcases h with rfl | rfl | rfl | rfl | rfl | rfl
  · exact ⟨_, .int _, by decide +kernel, by decide +kernel, by decide +kernel⟩
  · exact ⟨_, .int _, by decide +kernel, by decide +kernel, by decide +kernel⟩
  · exact ⟨_, .int _, by decide +kernel, by decide +kernel, by decide +kernel⟩
  · exact ⟨_, .int _, by decide +kernel, by decide +kernel, by decide +kernel⟩
  · exact ⟨_, .bl _, by decide +kernel, by decide +kernel, by decide +kernel⟩
  · exact ⟨_, .bl _, by decide +kernel, by decide +kernel, by decide +kernel⟩
theorem ok_odd (F : FnP K "_law_odd" sOdd f fd) (GP : FnOk P w K mg base CX0 2 fP fdP ["_law_pot_here", "_law_some"] (spPick K)) (FP : FnP K "_law_pick" sPick fP fdP) (gPick : mg "_law_pick" = some (.ref fP)) : FnOk P w K mg base CX0 3 f fd ["_law_pot_here"] (spOdd K) := by
  have bP : Binds K fdP ["_law_pot_here", "_law_some"] [] := FP.bindsN fun _ _ _ _ _ _ us hl => match us, hl with | [_, _], _ => rfl
  refine F.ok scOdd (fun vs H Q E h => ?_) (fun cdv A outer s H vs Q E hr h => ?_)
  · obtain ⟨p, rfl, _⟩ := h
    rfl
  · obtain ⟨p, rfl, hp, q⟩ := h
    refine ⟨_, PSs.nox (pss_cons (ps_set (i := 1) scOdd.nd rfl (Or.inl rfl) (pe_call GP hr rfl gPick FP.kp bP .nil pass0 (pa_cons (pv 0) (pa_cons (pe_lst (pa_cons pe_int (pa_cons pe_int (pa_cons (pe_un un_neg pe_int) (pa_cons (pe_op op_pow pe_int pe_int) (pa_cons pe_bl (pa_cons pe_bl pa_nil))))))) pa_nil))))
      (pss_one (ps_ret (pe_call GP hr rfl gPick FP.kp bP .nil pass0 (pa_cons (pv 0) (pa_cons (pe_lst (pa_cons pe_non (pa_cons (pv 1) (pa_cons pe_str (pa_cons pe_str (pa_cons (pe_lst (pa_cons pe_str pa_nil)) (pa_cons (pe_tup (pa_cons pe_str (pa_cons pe_non pa_nil)))
        (pa_cons pe_dnewK (pa_cons (pe_disp (pps_cons pe_str pe_int pps_nil) (by rfl) (by rfl) (fun z => by cases z) (by decide)) (pa_cons (pe_tup pa_nil) (pa_cons (pe_lst (pa_cons (pe_lst pa_nil) pa_nil)) (pa_cons (pv 1) pa_nil)))))))))))) pa_nil)))))), ?_⟩
    walk_at "rd"
    refine ⟨Rd.small (by show 6 ≤ 100000; decide), fun l hl => ?_⟩
    walk_at "rd"
    obtain ⟨px, py, hpl, _⟩ := id hp
    refine ⟨p, l, _, rfl, hp.same (same_new hl), upd_same, fun e => ?_, by simp, by show 6 < 1000000; decide, fun v0 H1 hv0 hp1 hb1 => ?_⟩
    · rw [e, hpl] at hl
      cases hl
    walk_at "rd"
    obtain ⟨qx, qy, hq1, _⟩ := id hp1
    refine ⟨Rd.small (by decide), fun a1 h1 => ?_⟩
    have s1 := same_new (o := HO.lst [V.str "a"]) h1
    have o1 := upd_same (H := H1) (a := a1) (o := HO.lst [V.str "a"])
    generalize upd H1 a1 (HO.lst [V.str "a"]) = G1 at s1 o1 ⊢
    walk_at "rd"
    refine ⟨Rd.small (by decide), fun a2 h2 => ?_⟩
    have s2 := same_new (o := HO.tup [V.str "a", V.non]) h2
    have o2 := upd_same (H := G1) (a := a2) (o := HO.tup [V.str "a", V.non])
    generalize upd G1 a2 (HO.tup [V.str "a", V.non]) = G2 at s2 o2 ⊢
    walk_at "rd"
    refine fun a3 h3 => ?_
    have s3 := same_new (o := HO.dK []) h3
    have o3 := upd_same (H := G2) (a := a3) (o := HO.dK [])
    generalize upd G2 a3 (HO.dK []) = G3 at s3 o3 ⊢
    walk_at "rd"
    refine fun a4 h4 => ?_
    refine ⟨upd_same, [(Sum.inr "a", .int 1)], rfl, by decide, ?_⟩
    rw [upd_upd]
    have s4 := same_new (o := HO.dK (mergeK [] [(Sum.inr "a", V.int 1)])) h4
    have o4 := upd_same (H := G3) (a := a4) (o := HO.dK (mergeK [] [(Sum.inr "a", V.int 1)]))
    generalize upd G3 a4 (HO.dK (mergeK [] [(Sum.inr "a", V.int 1)])) = G4 at s4 o4 ⊢
    walk_at "rd"
    refine ⟨Rd.small (by decide), fun a5 h5 => ?_⟩
    have s5 := same_new (o := HO.tup []) h5
    have o5 := upd_same (H := G4) (a := a5) (o := HO.tup [])
    generalize upd G4 a5 (HO.tup []) = G5 at s5 o5 ⊢
    walk_at "rd"
    refine ⟨Rd.small (by decide), fun a6 h6 => ?_⟩
    have s6 := same_new (o := HO.lst []) h6
    have o6 := upd_same (H := G5) (a := a6) (o := HO.lst [])
    generalize upd G5 a6 (HO.lst []) = G6 at s6 o6 ⊢
    walk_at "rd"
    refine ⟨Rd.small (by show 1 ≤ 100000; decide), fun a7 h7 => ?_⟩
    have s7 := same_new (o := HO.lst [V.ref a6]) h7
    have o7 := upd_same (H := G6) (a := a7) (o := HO.lst [V.ref a6])
    generalize upd G6 a7 (HO.lst [V.ref a6]) = G7 at s7 o7 ⊢
    walk_at "rd"
    refine ⟨Rd.small (by show 11 ≤ 100000; decide), fun a8 h8 => ?_⟩
    have s8 := same_new (o := HO.lst [V.non, v0, V.str "", V.str "column", V.ref a1, V.ref a2, V.ref a3, V.ref a4, V.ref a5, V.ref a7, v0]) h8
    have o8 := upd_same (H := G7) (a := a8) (o := HO.lst [V.non, v0, V.str "", V.str "column", V.ref a1, V.ref a2, V.ref a3, V.ref a4, V.ref a5, V.ref a7, v0])
    generalize upd G7 a8 (HO.lst [V.non, v0, V.str "", V.str "column", V.ref a1, V.ref a2, V.ref a3, V.ref a4, V.ref a5, V.ref a7, v0]) = G8 at s8 o8 ⊢
    walk_at "rd"
    have s78 : Same G7 G8 := s8
    have s68 := s7.trans s8
    have s58 := s6.trans s68
    have s48 := s5.trans s58
    have s38 := s4.trans s48
    have s28 := s3.trans s38
    have s18 := s2.trans s28
    have s08 := s1.trans s18
    have ne : ∀ {a : Addr} {G : Hp}, Same H1 G → G a = none → a ≠ p := fun {a G} e n z => by
      rw [z, e _ _ hq1] at n
      cases n
    refine ⟨p, a8, _, rfl, hp1.same s08, o8, ne ((s1.trans (s2.trans (s3.trans (s4.trans (s5.trans (s6.trans s7))))))) h8, by simp, by show 11 < 1000000; decide, fun v H2 hv hp2 hb2 => ?_⟩
    have fin : But p H H2 := But.trans (But.trans (butS (same_new hl)) hb1) (But.trans (butS s08) hb2)
    have at1 : del H2 p a1 = some (.lst [.str "a"]) := del_at (ne (Same.refl _) h1) (hb2 _ _ (ne (Same.refl _) h1) (s18 _ _ o1))
    have at2 : del H2 p a2 = some (.tup [.str "a", .non]) := del_at (ne s1 h2) (hb2 _ _ (ne s1 h2) (s28 _ _ o2))
    have at3 : del H2 p a3 = some (.dK []) := del_at (ne (s1.trans s2) h3) (hb2 _ _ (ne (s1.trans s2) h3) (s38 _ _ o3))
    have at4 : del H2 p a4 = some (.dK (mergeK [] [(Sum.inr "a", V.int 1)])) := del_at (ne (s1.trans (s2.trans s3)) h4) (hb2 _ _ (ne (s1.trans (s2.trans s3)) h4) (s48 _ _ o4))
    have n5 := ne (s1.trans (s2.trans (s3.trans s4))) h5
    have at5 : del H2 p a5 = some (.tup []) := del_at n5 (hb2 _ _ n5 (s58 _ _ o5))
    have n6 := ne (s1.trans (s2.trans (s3.trans (s4.trans s5)))) h6
    have at6 : del H2 p a6 = some (.lst []) := del_at n6 (hb2 _ _ n6 (s68 _ _ o6))
    have n7 := ne (s1.trans (s2.trans (s3.trans (s4.trans (s5.trans s6))))) h7
    have at7 : del H2 p a7 = some (.lst [.ref a6]) := del_at n7 (hb2 _ _ n7 (s78 _ _ o7))
    obtain ⟨d0, hd0, gd0⟩ := num_good (K := K) (H := del H2 p) hv0
    simp only [List.mem_cons, List.not_mem_nil, or_false] at hv
    rcases hv with rfl | rfl | rfl | rfl | rfl | rfl | rfl | rfl | rfl | rfl | rfl
    · exact q _ _ _ .non ⟨by decide +kernel, by decide +kernel, by decide +kernel⟩ hp2 fin
    · exact q _ _ _ hd0 gd0 hp2 fin
    · exact q _ _ _ (.str _) ⟨by decide +kernel, by decide +kernel, by decide +kernel⟩ hp2 fin
    · exact q _ _ _ (.str _) ⟨by decide +kernel, by decide +kernel, by decide +kernel⟩ hp2 fin
    · exact q _ _ _ (.lst at1 (.cons (.str _) .nil)) ⟨by decide +kernel, by decide +kernel, by decide +kernel⟩ hp2 fin
    · exact q _ _ _ (.tup at2 (.cons (.str _) (.cons .non .nil))) ⟨by decide +kernel, by decide +kernel, by decide +kernel⟩ hp2 fin
    · exact q _ (.dict (List.zip [] [])) _ (.dic at3 .nil .nil rfl) ⟨by decide +kernel, by decide +kernel, by decide +kernel⟩ hp2 fin
    · exact q _ (.dict (List.zip [.str "a"] [.int 1])) _ (.dic at4 (.cons (.str _) .nil) (.cons (.int _) .nil) rfl) ⟨by decide +kernel, by decide +kernel, by decide +kernel⟩ hp2 fin
    · exact q _ _ _ (.tup at5 .nil) ⟨by decide +kernel, by decide +kernel, by decide +kernel⟩ hp2 fin
    · exact q _ _ _ (.lst at7 (.cons (.lst at6 .nil) .nil)) ⟨by decide +kernel, by decide +kernel, by decide +kernel⟩ hp2 fin
    · exact q _ _ _ hd0 gd0 hp2 fin
end
end K15

namespace K15
open PySem PySem.Spec PyProof.Rows L2
def top (i : Nat) : Stmt := PySem.Challenge.pw_belowneeds_k15_errors_created.main.body.getD i (.Pass ⟨0, 0, 0, 0⟩)
/-- a def of the top, by its place and name -/
def dTop (i : Nat) (x : Str) : He.DefD := ⟨(x, none), x, x, defArgs (top i), defBody (top i), defScope (top i), [], []⟩
/-- a class's __init__ -/
def dIni (i : Nat) (x : Str) : He.DefD := ⟨(x, some "__init__"), "__init__", x ++ ".__init__", defArgs (inClass (top i) 0), defBody (inClass (top i) 0), defScope (inClass (top i) 0), [], []⟩
/-- an error class of the text: its name, its place at the top, which of the four built-in bases, its fields -/
structure Ec where
  name : Str
  at_ : Nat
  way : Nat
  fs : List Str
def rows : List Ec := ([⟨"InvalidNumber", 2, 0, ["value"]⟩, ⟨"InvalidName", 3, 0, ["value"]⟩, ⟨"InvalidFormula", 4, 0, ["value"]⟩, ⟨"InvalidChosen", 5, 0, ["value"]⟩, ⟨"InvalidWhere", 6, 0, ["value"]⟩, ⟨"InvalidPosition", 7, 0, ["value"]⟩, ⟨"InvalidColumns", 8, 0, ["position"]⟩, ⟨"InvalidTop", 9, 0, ["column"]⟩] : List Ec) ++
  ([⟨"InvalidKinds", 10, 0, ["kind", "column"]⟩, ⟨"InvalidPlan", 11, 0, ["place"]⟩, ⟨"InvalidWord", 12, 0, ["position"]⟩, ⟨"InvalidFill", 13, 0, ["part", "position"]⟩, ⟨"InvalidFoot", 14, 0, ["column"]⟩, ⟨"InvalidRow", 15, 0, ["value"]⟩, ⟨"InvalidCount", 16, 0, ["value"]⟩, ⟨"InvalidAbove", 17, 0, ["value"]⟩] : List Ec) ++
  ([⟨"InvalidTable", 18, 0, ["value"]⟩, ⟨"InvalidStates", 19, 0, ["position"]⟩, ⟨"InvalidText", 20, 0, ["line"]⟩, ⟨"InvalidClaim", 21, 0, ["value"]⟩, ⟨"InvalidCommand", 22, 0, ["value"]⟩, ⟨"UnknownColumn", 24, 1, ["value"]⟩, ⟨"UnknownKind", 25, 1, ["value"]⟩, ⟨"UnknownPlace", 26, 1, ["value"]⟩] : List Ec) ++
  ([⟨"UnknownName", 27, 1, ["value"]⟩, ⟨"NotAllowed", 29, 2, ["row"]⟩, ⟨"NotFull", 30, 2, ["column"]⟩, ⟨"OtherPlan", 31, 2, []⟩, ⟨"NotTurning", 32, 2, ["place"]⟩, ⟨"NameTaken", 33, 2, ["name"]⟩, ⟨"NothingToUndo", 34, 2, []⟩, ⟨"TooMany", 36, 3, ["what", "limit"]⟩] : List Ec)
def bmOf : Nat → List Value
  | 0 => [.type "ValueError", .type "Exception", .type "BaseException", .type "object"]
  | 1 => [.type "LookupError", .type "Exception", .type "BaseException", .type "object"]
  | 2 => [.type "RuntimeError", .type "Exception", .type "BaseException", .type "object"]
  | _ => [.type "ArithmeticError", .type "Exception", .type "BaseException", .type "object"]
def newOf : Nat → String
  | 0 => "ValueError.__new__"
  | 1 => "LookupError.__new__"
  | 2 => "RuntimeError.__new__"
  | _ => "ArithmeticError.__new__"
def builtOf : Nat → String
  | 0 => "ValueError"
  | 1 => "LookupError"
  | 2 => "RuntimeError"
  | _ => "ArithmeticError"
def baseOf : Nat → Str
  | 0 => "SheetError"
  | 1 => "MissingError"
  | 2 => "StateError"
  | _ => "LimitError"
/-- what the written part says of a class by itself -/
def xcB (K : PySem.W.Frag) (C : Addr) (w : Nat) : Bool :=
  PySem.W.excInitIn K C (bmOf w) (newOf w) && (PySem.W.excOver K C (bmOf w) && (PySem.W.hasDictIn K C && (He.eqO (PySem.W.findIn K (.ref C) "__setattr__") (some (some (.builtin "object.__setattr__"))) &&
  (He.eqO (PySem.W.findIn K (.ref C) "__getattribute__") (some (some (.builtin "BaseException.__getattribute__"))) && (He.eqO (PySem.W.findIn K (.ref C) "__getattr__") (some none) &&
  (decide (PySem.W.subIn K (.ref C) (.type "BaseException") = some true) && (decide (PySem.W.typeIn K (.ref C) = some (.type "type")) && (PySem.W.keepIn K (.ref C) &&
  (He.eqO (PySem.W.findIn K (.ref C) "__class__") (some (some (.builtin "object.__class__"))) && decide (PySem.W.mroIn K C (.type "object") = some true))))))))))
def rowB (K : PySem.W.Frag) (r : Ec) : Bool := (fun C => He.eqO (PySem.W.nsIn K mainGlobals r.name) (some (some (.ref C))) && (xcB K C r.way && (r.fs.all (fun f => He.eqO (PySem.W.findIn K (.ref C) f) (some none)) &&
  (match r.fs with
  | [] => PySem.W.excIn K C (bmOf r.way) (newOf r.way)
  | _ => He.eqO (PySem.W.findIn K (.ref C) "__init__") (some (some (.ref (He.ma K C "__init__")))) && PySem.W.isFn K (.ref (He.ma K C "__init__")))))) (He.ga K r.name)
def kitB (K : PySem.W.Frag) (C : Addr) (cv : Value) (b : Bool) : Bool := decide (PySem.W.kitOne K (.ref C) cv = some b)
/-- of which classes the errors are -/
def tabB (K : PySem.W.Frag) : Bool := rows.all fun r => (rows.all fun q => kitB K (He.ga K r.name) (.ref (He.ga K q.name)) (r.at_ == q.at_)) &&
  [0, 1, 2, 3].all fun v => kitB K (He.ga K r.name) (.ref (He.ga K (baseOf v))) (r.way == v) && kitB K (He.ga K r.name) (.type (builtOf v)) (r.way == v)
def bsB (K : PySem.W.Frag) : Bool := [0, 1, 2, 3].all fun v => He.eqO (PySem.W.nsIn K mainGlobals (baseOf v)) (some (some (.ref (He.ga K (baseOf v)))))
def gsB (K : PySem.W.Frag) : Bool := decide (PySem.W.specialIn K (.builtin "object.__class__") "__get__" = some (some (.builtin "getset_descriptor.__get__"))) && decide (PySem.W.takesIn K (.builtin "object.__class__") = some true)
def excB (K : PySem.W.Frag) : Bool := ([("InvalidFill", 0), ("UnknownName", 1), ("NotFull", 2), ("TooMany", 3)] : List (Str × Nat)).all fun p => ([("InvalidFill", 0), ("MissingError", 1), ("StateError", 2), ("LimitError", 3)] : List (Str × Nat)).all fun q =>
  decide (PySem.W.exmOne K (.ref (He.ga K p.1)) (.ref (He.ga K q.1)) = some (p.2 == q.2))
def xf (K : PySem.W.Frag) : Bool := smOk K && (gsB K && (rows.all (rowB K) && (bsB K && (tabB K && excB K))))
def fn : List He.DefD := [dTop 38 "_law_pot", dTop 39 "_law_draw", dTop 40 "_law_pick", dTop 41 "_law_odd", dTop 42 "_law_by_position", dTop 43 "_law_by_name", dTop 44 "_law_classes", dTop 45 "_law_bases", dTop 46 "_law_held", dTop 47 "_law_due", dTop 48 "_law_some_right", dTop 49 "_law_caught", dTop 50 "_law_right", dTop 51 "law"] ++
  [dIni 2 "InvalidNumber", dIni 3 "InvalidName", dIni 4 "InvalidFormula", dIni 5 "InvalidChosen", dIni 6 "InvalidWhere", dIni 7 "InvalidPosition", dIni 8 "InvalidColumns", dIni 9 "InvalidTop", dIni 10 "InvalidKinds", dIni 11 "InvalidPlan", dIni 12 "InvalidWord", dIni 13 "InvalidFill", dIni 14 "InvalidFoot", dIni 15 "InvalidRow", dIni 16 "InvalidCount", dIni 17 "InvalidAbove", dIni 18 "InvalidTable", dIni 19 "InvalidStates", dIni 20 "InvalidText", dIni 21 "InvalidClaim", dIni 22 "InvalidCommand", dIni 24 "UnknownColumn", dIni 25 "UnknownKind", dIni 26 "UnknownPlace", dIni 27 "UnknownName", dIni 29 "NotAllowed", dIni 30 "NotFull", dIni 32 "NotTurning", dIni 33 "NameTaken", dIni 36 "TooMany"]
def fa : List He.Fa := [.glo "_law_pot", .glo "_law_draw", .glo "_law_pick", .glo "_law_odd", .glo "_law_by_position", .glo "_law_by_name", .glo "_law_classes", .glo "_law_bases", .glo "_law_held", .glo "_law_due", .glo "_law_some_right", .glo "_law_caught", .glo "_law_right", .glo "law"] ++ [.free "len", .free "abs", .free "max", .free "min", .free "int", .free "divmod", .free "isinstance", .free "repr", .free "enumerate", .free "range", .free "all", .free "ValueError", .free "LookupError", .free "RuntimeError", .free "ArithmeticError"]
abbrev R : PySem.W.OpenRow := PySem.W.OpenLaw.row PySem.Challenge.rw_belowneeds_k15_errors_created
abbrev hk : PySem.W.Hook := He.hookX 5 xf fa fn
def ob (s : PySem.W.SharedT) : He.AlX := He.obsXG 5 xf fa fn (HandSHeadRun.getT s)
theorem ob_eq (s : PySem.W.SharedT) : ob s = hk.obs s.abs := He.obsXG_eq (HandSHeadRun.getT_eq s)
def loose : List Str := (["SheetError", "InvalidNumber", "InvalidName", "InvalidFormula", "InvalidChosen", "InvalidWhere", "InvalidPosition", "InvalidColumns", "InvalidTop", "InvalidKinds", "InvalidPlan", "InvalidWord", "InvalidFill", "InvalidFoot", "InvalidRow", "InvalidCount", "InvalidAbove", "InvalidTable", "InvalidStates", "InvalidText"] : List Str) ++ (["InvalidClaim", "InvalidCommand", "MissingError", "UnknownColumn", "UnknownKind", "UnknownPlace", "UnknownName", "StateError", "NotAllowed", "NotFull", "OtherPlan", "NotTurning", "NameTaken", "NothingToUndo", "LimitError", "TooMany"] : List Str) ++ (["_law_pot", "_law_draw", "_law_pick", "_law_odd", "_law_by_position", "_law_by_name", "_law_classes", "_law_bases", "_law_held", "_law_due", "_law_some_right", "_law_caught", "_law_right"] : List Str)
theorem run (w : World) : HandSHeadRun.RunEq R (PySem.W.view R.prog [51]) hk ob 12000 loose w := by
  intro os
  kernel_rfl
end K15

namespace K15
open PySem PySem.Spec PyProof.Rows L2
local macro_rules | `(tactic| walk_at "rd1") => `(tactic| first
  | (with_reducible refine Rd.seq ?_) | (with_reducible refine Rd.asg ?_) | (with_reducible refine Rd.ret ?_) | (with_reducible refine Rd.nxt ?_) | (with_reducible refine Rd.ifS ?_)
  | (with_reducible refine Rd.op ?_) | (with_reducible refine Rd.un ?_) | (with_reducible refine Rd.cb ?_) | (with_reducible refine Rd.cons ?_) | (with_reducible refine Rd.nil ?_) | (with_reducible refine Rd.ifx ?_)
  | (with_reducible refine Rd.test ?_) | (with_reducible refine Rd.testB ?_) | (with_reducible refine Rd.notT ?_) | (with_reducible refine Rd.isB ?_) | (with_reducible refine Rd.lst ?_) | (with_reducible refine Rd.tup ?_)
  | (with_reducible refine Rd.call ?_) | (with_reducible refine Rd.asgG ?_) | (with_reducible refine Rd.gNm ?_) | (with_reducible refine Rd.gSb ?_) | (with_reducible refine Rd.gC ?_) | (with_reducible refine Rd.gN ?_)
  | ((with_reducible refine' Rd.var ?hv ?_); (case hv => exact rfl)) | (with_reducible refine Rd.c ?_) | (with_reducible refine Rd.i0 ?_) | (with_reducible refine Rd.neg ?_)
  | ((with_reducible refine' Rd.iC ?hc ?_); (case hc => first | (show (0 : Int) < _; decide) | exact ⟨by decide, by decide⟩ | exact ⟨by decide, by decide, by decide⟩ | exact .inl ⟨by decide, by decide⟩ | exact .inr ⟨by decide, by decide⟩ | exact .inl ⟨by omega, by omega⟩ | (show (0 : Int) < _; omega) | exact ⟨by omega, by omega⟩))
  | ((with_reducible refine' Rd.eqS ?hc ?_); (case hc => rfl)) | ((with_reducible refine' Rd.neS ?hc ?_); (case hc => rfl)))
local macro_rules | `(tactic| walk_at "rd") => `(tactic| repeat walk_at "rd1")

/-! ### the error classes -/
theorem xc_of {K : PySem.W.Frag} {C : Addr} {v : Nat} (g : gsB K = true) (q : xcB K C v = true) : XC K C := by
  obtain ⟨q1, q⟩ := He.ba q
  obtain ⟨q2, q⟩ := He.ba q
  obtain ⟨q3, q⟩ := He.ba q
  obtain ⟨q4, q⟩ := He.ba q
  obtain ⟨q5, q⟩ := He.ba q
  obtain ⟨q6, q⟩ := He.ba q
  obtain ⟨q7, q⟩ := He.ba q
  obtain ⟨q8, q⟩ := He.ba q
  obtain ⟨q9, q⟩ := He.ba q
  obtain ⟨q10, q11⟩ := He.ba q
  obtain ⟨g1, g2⟩ := He.ba g
  refine ⟨?_, q3, He.eqO_ok q4, He.eqO_ok q5, He.eqO_ok q6, of_decide_eq_true q7, of_decide_eq_true q8, q9, He.eqO_ok q10, of_decide_eq_true g1, of_decide_eq_true g2, of_decide_eq_true q11⟩
  match v, q1, q2 with
  | 0, q1, q2 => exact ⟨_, _, _, _, F.excBase_ValueError, F.store_ValueError, q1, q2⟩
  | 1, q1, q2 => exact ⟨_, _, _, _, F.excBase_LookupError, F.store_LookupError, q1, q2⟩
  | 2, q1, q2 => exact ⟨_, _, _, _, F.excBase_RuntimeError, F.store_RuntimeError, q1, q2⟩
  | _ + 3, q1, q2 => exact ⟨_, _, _, _, F.excBase_ArithmeticError, F.store_ArithmeticError, q1, q2⟩
/-- what the written part says of a row's class -/
structure RowOk (K : PySem.W.Frag) (mg : Str → Option Value) (r : Ec) : Prop where
  g : mg r.name = some (.ref (He.ga K r.name))
  xc : XC K (He.ga K r.name)
  no : ∀ f ∈ r.fs, PySem.W.findIn K (.ref (He.ga K r.name)) f = some none
  ini : r.fs ≠ [] → PySem.W.findIn K (.ref (He.ga K r.name)) "__init__" = some (some (.ref (He.ma K (He.ga K r.name) "__init__"))) ∧ PySem.W.typeIn K (.ref (He.ma K (He.ga K r.name) "__init__")) = some (.type "function")
  non : r.fs = [] → PySem.W.excIn K (He.ga K r.name) (bmOf r.way) (newOf r.way) = true
theorem row_of {K : PySem.W.Frag} {h : Heap} {mg : Str → Option Value} (X : K.In h) (G : h.Ns mainGlobals mg) (g : gsB K = true) {r : Ec} (q : rowB K r = true) : RowOk K mg r := by
  obtain ⟨q1, q⟩ := He.ba (show (He.eqO (PySem.W.nsIn K mainGlobals r.name) (some (some (.ref (He.ga K r.name)))) && _) = true from q)
  obtain ⟨q2, q⟩ := He.ba q
  obtain ⟨q3, q4⟩ := He.ba q
  refine ⟨PySem.W.mg_of X G (He.eqO_ok q1), xc_of g q2, fun f hf => He.eqO_ok (List.all_eq_true.mp q3 f hf), fun hn => ?_, fun hn => ?_⟩
  · split at q4
    · rename_i e
      exact absurd e hn
    · obtain ⟨z1, z2⟩ := He.ba q4
      exact ⟨He.eqO_ok z1, beq_iff_eq.mp z2⟩
  · rw [hn] at q4
    exact q4
/-! ### their __init__ -/
def sp1 (C : Addr) (f : Str) : Sp := fun vs H Q _ => ∃ (a : Addr) (v : V), vs = [.ref a, v] ∧ H a = some (exo a C none) ∧ ∀ d, H d = none → d ≠ a → Q .non (upd (upd H d (exd d [(f, v)])) a (exo a C (some d)))
def sp2 (C : Addr) (f g : Str) : Sp := fun vs H Q _ => ∃ (a : Addr) (v u : V), vs = [.ref a, v, u] ∧ H a = some (exo a C none) ∧ ∀ d, H d = none → d ≠ a → Q .non (upd (upd (upd H d (exd d [(f, v)])) a (exo a C (some d))) d (exd d [(g, u), (f, v)]))
abbrev FnI (K : PySem.W.Frag) (i : Nat) (x : Str) (f : Addr) (fd : FuncData) : Prop := FunD K "__init__" (x ++ ".__init__") (defArgs (inClass (top i) 0)) (defBody (inClass (top i) 0)) (defScope (inClass (top i) 0)) [] [] f fd
section
variable {P : Program} {w : World} {K : PySem.W.Frag} {mg : Str → Option Value} {base : Heap} {f C : Addr} {fd : FuncData}
theorem sc_InvalidNumber : FnScope ["self", "value"] ["self", "value"] (defScope (inClass (top 2) 0)) := ⟨rfl, rfl, rfl, by decide +kernel, rfl, by decide +kernel, by decide +kernel⟩
theorem ini_InvalidNumber (F : FnI K 2 "InvalidNumber" f fd) (T : XC K C) (n0 : PySem.W.findIn K (.ref C) "value" = some none) : FnOk P w K mg base CX0 1 f fd ["self", "value"] (sp1 C "value") := by
  refine F.ok sc_InvalidNumber (fun vs H Q E h => ?_) (fun cdv A outer s H vs Q E hr h => ?_)
  · obtain ⟨a, v, rfl, _⟩ := h
    rfl
  · obtain ⟨a, v, rfl, ha, k⟩ := h
    exact ⟨_, PSs.nox (pss_one (ps_ostX (pv 0) (pv 1))), ⟨_, rfl, _, rfl, a, C, rfl, T, n0, .inl ⟨ha, k⟩⟩⟩
theorem sc_InvalidName : FnScope ["self", "value"] ["self", "value"] (defScope (inClass (top 3) 0)) := ⟨rfl, rfl, rfl, by decide +kernel, rfl, by decide +kernel, by decide +kernel⟩
theorem ini_InvalidName (F : FnI K 3 "InvalidName" f fd) (T : XC K C) (n0 : PySem.W.findIn K (.ref C) "value" = some none) : FnOk P w K mg base CX0 1 f fd ["self", "value"] (sp1 C "value") := by
  refine F.ok sc_InvalidName (fun vs H Q E h => ?_) (fun cdv A outer s H vs Q E hr h => ?_)
  · obtain ⟨a, v, rfl, _⟩ := h
    rfl
  · obtain ⟨a, v, rfl, ha, k⟩ := h
    exact ⟨_, PSs.nox (pss_one (ps_ostX (pv 0) (pv 1))), ⟨_, rfl, _, rfl, a, C, rfl, T, n0, .inl ⟨ha, k⟩⟩⟩
theorem sc_InvalidFormula : FnScope ["self", "value"] ["self", "value"] (defScope (inClass (top 4) 0)) := ⟨rfl, rfl, rfl, by decide +kernel, rfl, by decide +kernel, by decide +kernel⟩
theorem ini_InvalidFormula (F : FnI K 4 "InvalidFormula" f fd) (T : XC K C) (n0 : PySem.W.findIn K (.ref C) "value" = some none) : FnOk P w K mg base CX0 1 f fd ["self", "value"] (sp1 C "value") := by
  refine F.ok sc_InvalidFormula (fun vs H Q E h => ?_) (fun cdv A outer s H vs Q E hr h => ?_)
  · obtain ⟨a, v, rfl, _⟩ := h
    rfl
  · obtain ⟨a, v, rfl, ha, k⟩ := h
    exact ⟨_, PSs.nox (pss_one (ps_ostX (pv 0) (pv 1))), ⟨_, rfl, _, rfl, a, C, rfl, T, n0, .inl ⟨ha, k⟩⟩⟩
theorem sc_InvalidChosen : FnScope ["self", "value"] ["self", "value"] (defScope (inClass (top 5) 0)) := ⟨rfl, rfl, rfl, by decide +kernel, rfl, by decide +kernel, by decide +kernel⟩
theorem ini_InvalidChosen (F : FnI K 5 "InvalidChosen" f fd) (T : XC K C) (n0 : PySem.W.findIn K (.ref C) "value" = some none) : FnOk P w K mg base CX0 1 f fd ["self", "value"] (sp1 C "value") := by
  refine F.ok sc_InvalidChosen (fun vs H Q E h => ?_) (fun cdv A outer s H vs Q E hr h => ?_)
  · obtain ⟨a, v, rfl, _⟩ := h
    rfl
  · obtain ⟨a, v, rfl, ha, k⟩ := h
    exact ⟨_, PSs.nox (pss_one (ps_ostX (pv 0) (pv 1))), ⟨_, rfl, _, rfl, a, C, rfl, T, n0, .inl ⟨ha, k⟩⟩⟩
theorem sc_InvalidWhere : FnScope ["self", "value"] ["self", "value"] (defScope (inClass (top 6) 0)) := ⟨rfl, rfl, rfl, by decide +kernel, rfl, by decide +kernel, by decide +kernel⟩
theorem ini_InvalidWhere (F : FnI K 6 "InvalidWhere" f fd) (T : XC K C) (n0 : PySem.W.findIn K (.ref C) "value" = some none) : FnOk P w K mg base CX0 1 f fd ["self", "value"] (sp1 C "value") := by
  refine F.ok sc_InvalidWhere (fun vs H Q E h => ?_) (fun cdv A outer s H vs Q E hr h => ?_)
  · obtain ⟨a, v, rfl, _⟩ := h
    rfl
  · obtain ⟨a, v, rfl, ha, k⟩ := h
    exact ⟨_, PSs.nox (pss_one (ps_ostX (pv 0) (pv 1))), ⟨_, rfl, _, rfl, a, C, rfl, T, n0, .inl ⟨ha, k⟩⟩⟩
theorem sc_InvalidPosition : FnScope ["self", "value"] ["self", "value"] (defScope (inClass (top 7) 0)) := ⟨rfl, rfl, rfl, by decide +kernel, rfl, by decide +kernel, by decide +kernel⟩
theorem ini_InvalidPosition (F : FnI K 7 "InvalidPosition" f fd) (T : XC K C) (n0 : PySem.W.findIn K (.ref C) "value" = some none) : FnOk P w K mg base CX0 1 f fd ["self", "value"] (sp1 C "value") := by
  refine F.ok sc_InvalidPosition (fun vs H Q E h => ?_) (fun cdv A outer s H vs Q E hr h => ?_)
  · obtain ⟨a, v, rfl, _⟩ := h
    rfl
  · obtain ⟨a, v, rfl, ha, k⟩ := h
    exact ⟨_, PSs.nox (pss_one (ps_ostX (pv 0) (pv 1))), ⟨_, rfl, _, rfl, a, C, rfl, T, n0, .inl ⟨ha, k⟩⟩⟩
theorem sc_InvalidColumns : FnScope ["self", "position"] ["self", "position"] (defScope (inClass (top 8) 0)) := ⟨rfl, rfl, rfl, by decide +kernel, rfl, by decide +kernel, by decide +kernel⟩
theorem ini_InvalidColumns (F : FnI K 8 "InvalidColumns" f fd) (T : XC K C) (n0 : PySem.W.findIn K (.ref C) "position" = some none) : FnOk P w K mg base CX0 1 f fd ["self", "position"] (sp1 C "position") := by
  refine F.ok sc_InvalidColumns (fun vs H Q E h => ?_) (fun cdv A outer s H vs Q E hr h => ?_)
  · obtain ⟨a, v, rfl, _⟩ := h
    rfl
  · obtain ⟨a, v, rfl, ha, k⟩ := h
    exact ⟨_, PSs.nox (pss_one (ps_ostX (pv 0) (pv 1))), ⟨_, rfl, _, rfl, a, C, rfl, T, n0, .inl ⟨ha, k⟩⟩⟩
theorem sc_InvalidTop : FnScope ["self", "column"] ["self", "column"] (defScope (inClass (top 9) 0)) := ⟨rfl, rfl, rfl, by decide +kernel, rfl, by decide +kernel, by decide +kernel⟩
theorem ini_InvalidTop (F : FnI K 9 "InvalidTop" f fd) (T : XC K C) (n0 : PySem.W.findIn K (.ref C) "column" = some none) : FnOk P w K mg base CX0 1 f fd ["self", "column"] (sp1 C "column") := by
  refine F.ok sc_InvalidTop (fun vs H Q E h => ?_) (fun cdv A outer s H vs Q E hr h => ?_)
  · obtain ⟨a, v, rfl, _⟩ := h
    rfl
  · obtain ⟨a, v, rfl, ha, k⟩ := h
    exact ⟨_, PSs.nox (pss_one (ps_ostX (pv 0) (pv 1))), ⟨_, rfl, _, rfl, a, C, rfl, T, n0, .inl ⟨ha, k⟩⟩⟩
theorem sc_InvalidKinds : FnScope ["self", "kind", "column"] ["self", "kind", "column"] (defScope (inClass (top 10) 0)) := ⟨rfl, rfl, rfl, by decide +kernel, rfl, by decide +kernel, by decide +kernel⟩
theorem ini_InvalidKinds (F : FnI K 10 "InvalidKinds" f fd) (T : XC K C) (n0 : PySem.W.findIn K (.ref C) "kind" = some none) (n1 : PySem.W.findIn K (.ref C) "column" = some none) : FnOk P w K mg base CX0 1 f fd ["self", "kind", "column"] (sp2 C "kind" "column") := by
  refine F.ok sc_InvalidKinds (fun vs H Q E h => ?_) (fun cdv A outer s H vs Q E hr h => ?_)
  · obtain ⟨a, v, u, rfl, _⟩ := h
    rfl
  · obtain ⟨a, v, u, rfl, ha, k⟩ := h
    refine ⟨_, PSs.nox (pss_cons (ps_ostX (pv 0) (pv 1)) (pss_one (ps_ostX (pv 0) (pv 2)))), ⟨_, rfl, _, rfl, a, C, rfl, T, n0, .inl ⟨ha, fun d hd ne => ?_⟩⟩⟩
    exact ⟨_, rfl, _, rfl, a, C, rfl, T, n1, .inr ⟨d, [("kind", v)], upd_same, (upd_ne ne).trans upd_same, (by show 1 ≤ 900; decide), k d hd ne⟩⟩
theorem sc_InvalidPlan : FnScope ["self", "place"] ["self", "place"] (defScope (inClass (top 11) 0)) := ⟨rfl, rfl, rfl, by decide +kernel, rfl, by decide +kernel, by decide +kernel⟩
theorem ini_InvalidPlan (F : FnI K 11 "InvalidPlan" f fd) (T : XC K C) (n0 : PySem.W.findIn K (.ref C) "place" = some none) : FnOk P w K mg base CX0 1 f fd ["self", "place"] (sp1 C "place") := by
  refine F.ok sc_InvalidPlan (fun vs H Q E h => ?_) (fun cdv A outer s H vs Q E hr h => ?_)
  · obtain ⟨a, v, rfl, _⟩ := h
    rfl
  · obtain ⟨a, v, rfl, ha, k⟩ := h
    exact ⟨_, PSs.nox (pss_one (ps_ostX (pv 0) (pv 1))), ⟨_, rfl, _, rfl, a, C, rfl, T, n0, .inl ⟨ha, k⟩⟩⟩
theorem sc_InvalidWord : FnScope ["self", "position"] ["self", "position"] (defScope (inClass (top 12) 0)) := ⟨rfl, rfl, rfl, by decide +kernel, rfl, by decide +kernel, by decide +kernel⟩
theorem ini_InvalidWord (F : FnI K 12 "InvalidWord" f fd) (T : XC K C) (n0 : PySem.W.findIn K (.ref C) "position" = some none) : FnOk P w K mg base CX0 1 f fd ["self", "position"] (sp1 C "position") := by
  refine F.ok sc_InvalidWord (fun vs H Q E h => ?_) (fun cdv A outer s H vs Q E hr h => ?_)
  · obtain ⟨a, v, rfl, _⟩ := h
    rfl
  · obtain ⟨a, v, rfl, ha, k⟩ := h
    exact ⟨_, PSs.nox (pss_one (ps_ostX (pv 0) (pv 1))), ⟨_, rfl, _, rfl, a, C, rfl, T, n0, .inl ⟨ha, k⟩⟩⟩
theorem sc_InvalidFill : FnScope ["self", "part", "position"] ["self", "part", "position"] (defScope (inClass (top 13) 0)) := ⟨rfl, rfl, rfl, by decide +kernel, rfl, by decide +kernel, by decide +kernel⟩
theorem ini_InvalidFill (F : FnI K 13 "InvalidFill" f fd) (T : XC K C) (n0 : PySem.W.findIn K (.ref C) "part" = some none) (n1 : PySem.W.findIn K (.ref C) "position" = some none) : FnOk P w K mg base CX0 1 f fd ["self", "part", "position"] (sp2 C "part" "position") := by
  refine F.ok sc_InvalidFill (fun vs H Q E h => ?_) (fun cdv A outer s H vs Q E hr h => ?_)
  · obtain ⟨a, v, u, rfl, _⟩ := h
    rfl
  · obtain ⟨a, v, u, rfl, ha, k⟩ := h
    refine ⟨_, PSs.nox (pss_cons (ps_ostX (pv 0) (pv 1)) (pss_one (ps_ostX (pv 0) (pv 2)))), ⟨_, rfl, _, rfl, a, C, rfl, T, n0, .inl ⟨ha, fun d hd ne => ?_⟩⟩⟩
    exact ⟨_, rfl, _, rfl, a, C, rfl, T, n1, .inr ⟨d, [("part", v)], upd_same, (upd_ne ne).trans upd_same, (by show 1 ≤ 900; decide), k d hd ne⟩⟩
theorem sc_InvalidFoot : FnScope ["self", "column"] ["self", "column"] (defScope (inClass (top 14) 0)) := ⟨rfl, rfl, rfl, by decide +kernel, rfl, by decide +kernel, by decide +kernel⟩
theorem ini_InvalidFoot (F : FnI K 14 "InvalidFoot" f fd) (T : XC K C) (n0 : PySem.W.findIn K (.ref C) "column" = some none) : FnOk P w K mg base CX0 1 f fd ["self", "column"] (sp1 C "column") := by
  refine F.ok sc_InvalidFoot (fun vs H Q E h => ?_) (fun cdv A outer s H vs Q E hr h => ?_)
  · obtain ⟨a, v, rfl, _⟩ := h
    rfl
  · obtain ⟨a, v, rfl, ha, k⟩ := h
    exact ⟨_, PSs.nox (pss_one (ps_ostX (pv 0) (pv 1))), ⟨_, rfl, _, rfl, a, C, rfl, T, n0, .inl ⟨ha, k⟩⟩⟩
theorem sc_InvalidRow : FnScope ["self", "value"] ["self", "value"] (defScope (inClass (top 15) 0)) := ⟨rfl, rfl, rfl, by decide +kernel, rfl, by decide +kernel, by decide +kernel⟩
theorem ini_InvalidRow (F : FnI K 15 "InvalidRow" f fd) (T : XC K C) (n0 : PySem.W.findIn K (.ref C) "value" = some none) : FnOk P w K mg base CX0 1 f fd ["self", "value"] (sp1 C "value") := by
  refine F.ok sc_InvalidRow (fun vs H Q E h => ?_) (fun cdv A outer s H vs Q E hr h => ?_)
  · obtain ⟨a, v, rfl, _⟩ := h
    rfl
  · obtain ⟨a, v, rfl, ha, k⟩ := h
    exact ⟨_, PSs.nox (pss_one (ps_ostX (pv 0) (pv 1))), ⟨_, rfl, _, rfl, a, C, rfl, T, n0, .inl ⟨ha, k⟩⟩⟩
theorem sc_InvalidCount : FnScope ["self", "value"] ["self", "value"] (defScope (inClass (top 16) 0)) := ⟨rfl, rfl, rfl, by decide +kernel, rfl, by decide +kernel, by decide +kernel⟩
theorem ini_InvalidCount (F : FnI K 16 "InvalidCount" f fd) (T : XC K C) (n0 : PySem.W.findIn K (.ref C) "value" = some none) : FnOk P w K mg base CX0 1 f fd ["self", "value"] (sp1 C "value") := by
  refine F.ok sc_InvalidCount (fun vs H Q E h => ?_) (fun cdv A outer s H vs Q E hr h => ?_)
  · obtain ⟨a, v, rfl, _⟩ := h
    rfl
  · obtain ⟨a, v, rfl, ha, k⟩ := h
    exact ⟨_, PSs.nox (pss_one (ps_ostX (pv 0) (pv 1))), ⟨_, rfl, _, rfl, a, C, rfl, T, n0, .inl ⟨ha, k⟩⟩⟩
theorem sc_InvalidAbove : FnScope ["self", "value"] ["self", "value"] (defScope (inClass (top 17) 0)) := ⟨rfl, rfl, rfl, by decide +kernel, rfl, by decide +kernel, by decide +kernel⟩
theorem ini_InvalidAbove (F : FnI K 17 "InvalidAbove" f fd) (T : XC K C) (n0 : PySem.W.findIn K (.ref C) "value" = some none) : FnOk P w K mg base CX0 1 f fd ["self", "value"] (sp1 C "value") := by
  refine F.ok sc_InvalidAbove (fun vs H Q E h => ?_) (fun cdv A outer s H vs Q E hr h => ?_)
  · obtain ⟨a, v, rfl, _⟩ := h
    rfl
  · obtain ⟨a, v, rfl, ha, k⟩ := h
    exact ⟨_, PSs.nox (pss_one (ps_ostX (pv 0) (pv 1))), ⟨_, rfl, _, rfl, a, C, rfl, T, n0, .inl ⟨ha, k⟩⟩⟩
theorem sc_InvalidTable : FnScope ["self", "value"] ["self", "value"] (defScope (inClass (top 18) 0)) := ⟨rfl, rfl, rfl, by decide +kernel, rfl, by decide +kernel, by decide +kernel⟩
theorem ini_InvalidTable (F : FnI K 18 "InvalidTable" f fd) (T : XC K C) (n0 : PySem.W.findIn K (.ref C) "value" = some none) : FnOk P w K mg base CX0 1 f fd ["self", "value"] (sp1 C "value") := by
  refine F.ok sc_InvalidTable (fun vs H Q E h => ?_) (fun cdv A outer s H vs Q E hr h => ?_)
  · obtain ⟨a, v, rfl, _⟩ := h
    rfl
  · obtain ⟨a, v, rfl, ha, k⟩ := h
    exact ⟨_, PSs.nox (pss_one (ps_ostX (pv 0) (pv 1))), ⟨_, rfl, _, rfl, a, C, rfl, T, n0, .inl ⟨ha, k⟩⟩⟩
theorem sc_InvalidStates : FnScope ["self", "position"] ["self", "position"] (defScope (inClass (top 19) 0)) := ⟨rfl, rfl, rfl, by decide +kernel, rfl, by decide +kernel, by decide +kernel⟩
theorem ini_InvalidStates (F : FnI K 19 "InvalidStates" f fd) (T : XC K C) (n0 : PySem.W.findIn K (.ref C) "position" = some none) : FnOk P w K mg base CX0 1 f fd ["self", "position"] (sp1 C "position") := by
  refine F.ok sc_InvalidStates (fun vs H Q E h => ?_) (fun cdv A outer s H vs Q E hr h => ?_)
  · obtain ⟨a, v, rfl, _⟩ := h
    rfl
  · obtain ⟨a, v, rfl, ha, k⟩ := h
    exact ⟨_, PSs.nox (pss_one (ps_ostX (pv 0) (pv 1))), ⟨_, rfl, _, rfl, a, C, rfl, T, n0, .inl ⟨ha, k⟩⟩⟩
theorem sc_InvalidText : FnScope ["self", "line"] ["self", "line"] (defScope (inClass (top 20) 0)) := ⟨rfl, rfl, rfl, by decide +kernel, rfl, by decide +kernel, by decide +kernel⟩
theorem ini_InvalidText (F : FnI K 20 "InvalidText" f fd) (T : XC K C) (n0 : PySem.W.findIn K (.ref C) "line" = some none) : FnOk P w K mg base CX0 1 f fd ["self", "line"] (sp1 C "line") := by
  refine F.ok sc_InvalidText (fun vs H Q E h => ?_) (fun cdv A outer s H vs Q E hr h => ?_)
  · obtain ⟨a, v, rfl, _⟩ := h
    rfl
  · obtain ⟨a, v, rfl, ha, k⟩ := h
    exact ⟨_, PSs.nox (pss_one (ps_ostX (pv 0) (pv 1))), ⟨_, rfl, _, rfl, a, C, rfl, T, n0, .inl ⟨ha, k⟩⟩⟩
theorem sc_InvalidClaim : FnScope ["self", "value"] ["self", "value"] (defScope (inClass (top 21) 0)) := ⟨rfl, rfl, rfl, by decide +kernel, rfl, by decide +kernel, by decide +kernel⟩
theorem ini_InvalidClaim (F : FnI K 21 "InvalidClaim" f fd) (T : XC K C) (n0 : PySem.W.findIn K (.ref C) "value" = some none) : FnOk P w K mg base CX0 1 f fd ["self", "value"] (sp1 C "value") := by
  refine F.ok sc_InvalidClaim (fun vs H Q E h => ?_) (fun cdv A outer s H vs Q E hr h => ?_)
  · obtain ⟨a, v, rfl, _⟩ := h
    rfl
  · obtain ⟨a, v, rfl, ha, k⟩ := h
    exact ⟨_, PSs.nox (pss_one (ps_ostX (pv 0) (pv 1))), ⟨_, rfl, _, rfl, a, C, rfl, T, n0, .inl ⟨ha, k⟩⟩⟩
theorem sc_InvalidCommand : FnScope ["self", "value"] ["self", "value"] (defScope (inClass (top 22) 0)) := ⟨rfl, rfl, rfl, by decide +kernel, rfl, by decide +kernel, by decide +kernel⟩
theorem ini_InvalidCommand (F : FnI K 22 "InvalidCommand" f fd) (T : XC K C) (n0 : PySem.W.findIn K (.ref C) "value" = some none) : FnOk P w K mg base CX0 1 f fd ["self", "value"] (sp1 C "value") := by
  refine F.ok sc_InvalidCommand (fun vs H Q E h => ?_) (fun cdv A outer s H vs Q E hr h => ?_)
  · obtain ⟨a, v, rfl, _⟩ := h
    rfl
  · obtain ⟨a, v, rfl, ha, k⟩ := h
    exact ⟨_, PSs.nox (pss_one (ps_ostX (pv 0) (pv 1))), ⟨_, rfl, _, rfl, a, C, rfl, T, n0, .inl ⟨ha, k⟩⟩⟩
theorem sc_UnknownColumn : FnScope ["self", "value"] ["self", "value"] (defScope (inClass (top 24) 0)) := ⟨rfl, rfl, rfl, by decide +kernel, rfl, by decide +kernel, by decide +kernel⟩
theorem ini_UnknownColumn (F : FnI K 24 "UnknownColumn" f fd) (T : XC K C) (n0 : PySem.W.findIn K (.ref C) "value" = some none) : FnOk P w K mg base CX0 1 f fd ["self", "value"] (sp1 C "value") := by
  refine F.ok sc_UnknownColumn (fun vs H Q E h => ?_) (fun cdv A outer s H vs Q E hr h => ?_)
  · obtain ⟨a, v, rfl, _⟩ := h
    rfl
  · obtain ⟨a, v, rfl, ha, k⟩ := h
    exact ⟨_, PSs.nox (pss_one (ps_ostX (pv 0) (pv 1))), ⟨_, rfl, _, rfl, a, C, rfl, T, n0, .inl ⟨ha, k⟩⟩⟩
theorem sc_UnknownKind : FnScope ["self", "value"] ["self", "value"] (defScope (inClass (top 25) 0)) := ⟨rfl, rfl, rfl, by decide +kernel, rfl, by decide +kernel, by decide +kernel⟩
theorem ini_UnknownKind (F : FnI K 25 "UnknownKind" f fd) (T : XC K C) (n0 : PySem.W.findIn K (.ref C) "value" = some none) : FnOk P w K mg base CX0 1 f fd ["self", "value"] (sp1 C "value") := by
  refine F.ok sc_UnknownKind (fun vs H Q E h => ?_) (fun cdv A outer s H vs Q E hr h => ?_)
  · obtain ⟨a, v, rfl, _⟩ := h
    rfl
  · obtain ⟨a, v, rfl, ha, k⟩ := h
    exact ⟨_, PSs.nox (pss_one (ps_ostX (pv 0) (pv 1))), ⟨_, rfl, _, rfl, a, C, rfl, T, n0, .inl ⟨ha, k⟩⟩⟩
theorem sc_UnknownPlace : FnScope ["self", "value"] ["self", "value"] (defScope (inClass (top 26) 0)) := ⟨rfl, rfl, rfl, by decide +kernel, rfl, by decide +kernel, by decide +kernel⟩
theorem ini_UnknownPlace (F : FnI K 26 "UnknownPlace" f fd) (T : XC K C) (n0 : PySem.W.findIn K (.ref C) "value" = some none) : FnOk P w K mg base CX0 1 f fd ["self", "value"] (sp1 C "value") := by
  refine F.ok sc_UnknownPlace (fun vs H Q E h => ?_) (fun cdv A outer s H vs Q E hr h => ?_)
  · obtain ⟨a, v, rfl, _⟩ := h
    rfl
  · obtain ⟨a, v, rfl, ha, k⟩ := h
    exact ⟨_, PSs.nox (pss_one (ps_ostX (pv 0) (pv 1))), ⟨_, rfl, _, rfl, a, C, rfl, T, n0, .inl ⟨ha, k⟩⟩⟩
theorem sc_UnknownName : FnScope ["self", "value"] ["self", "value"] (defScope (inClass (top 27) 0)) := ⟨rfl, rfl, rfl, by decide +kernel, rfl, by decide +kernel, by decide +kernel⟩
theorem ini_UnknownName (F : FnI K 27 "UnknownName" f fd) (T : XC K C) (n0 : PySem.W.findIn K (.ref C) "value" = some none) : FnOk P w K mg base CX0 1 f fd ["self", "value"] (sp1 C "value") := by
  refine F.ok sc_UnknownName (fun vs H Q E h => ?_) (fun cdv A outer s H vs Q E hr h => ?_)
  · obtain ⟨a, v, rfl, _⟩ := h
    rfl
  · obtain ⟨a, v, rfl, ha, k⟩ := h
    exact ⟨_, PSs.nox (pss_one (ps_ostX (pv 0) (pv 1))), ⟨_, rfl, _, rfl, a, C, rfl, T, n0, .inl ⟨ha, k⟩⟩⟩
theorem sc_NotAllowed : FnScope ["self", "row"] ["self", "row"] (defScope (inClass (top 29) 0)) := ⟨rfl, rfl, rfl, by decide +kernel, rfl, by decide +kernel, by decide +kernel⟩
theorem ini_NotAllowed (F : FnI K 29 "NotAllowed" f fd) (T : XC K C) (n0 : PySem.W.findIn K (.ref C) "row" = some none) : FnOk P w K mg base CX0 1 f fd ["self", "row"] (sp1 C "row") := by
  refine F.ok sc_NotAllowed (fun vs H Q E h => ?_) (fun cdv A outer s H vs Q E hr h => ?_)
  · obtain ⟨a, v, rfl, _⟩ := h
    rfl
  · obtain ⟨a, v, rfl, ha, k⟩ := h
    exact ⟨_, PSs.nox (pss_one (ps_ostX (pv 0) (pv 1))), ⟨_, rfl, _, rfl, a, C, rfl, T, n0, .inl ⟨ha, k⟩⟩⟩
theorem sc_NotFull : FnScope ["self", "column"] ["self", "column"] (defScope (inClass (top 30) 0)) := ⟨rfl, rfl, rfl, by decide +kernel, rfl, by decide +kernel, by decide +kernel⟩
theorem ini_NotFull (F : FnI K 30 "NotFull" f fd) (T : XC K C) (n0 : PySem.W.findIn K (.ref C) "column" = some none) : FnOk P w K mg base CX0 1 f fd ["self", "column"] (sp1 C "column") := by
  refine F.ok sc_NotFull (fun vs H Q E h => ?_) (fun cdv A outer s H vs Q E hr h => ?_)
  · obtain ⟨a, v, rfl, _⟩ := h
    rfl
  · obtain ⟨a, v, rfl, ha, k⟩ := h
    exact ⟨_, PSs.nox (pss_one (ps_ostX (pv 0) (pv 1))), ⟨_, rfl, _, rfl, a, C, rfl, T, n0, .inl ⟨ha, k⟩⟩⟩
theorem sc_NotTurning : FnScope ["self", "place"] ["self", "place"] (defScope (inClass (top 32) 0)) := ⟨rfl, rfl, rfl, by decide +kernel, rfl, by decide +kernel, by decide +kernel⟩
theorem ini_NotTurning (F : FnI K 32 "NotTurning" f fd) (T : XC K C) (n0 : PySem.W.findIn K (.ref C) "place" = some none) : FnOk P w K mg base CX0 1 f fd ["self", "place"] (sp1 C "place") := by
  refine F.ok sc_NotTurning (fun vs H Q E h => ?_) (fun cdv A outer s H vs Q E hr h => ?_)
  · obtain ⟨a, v, rfl, _⟩ := h
    rfl
  · obtain ⟨a, v, rfl, ha, k⟩ := h
    exact ⟨_, PSs.nox (pss_one (ps_ostX (pv 0) (pv 1))), ⟨_, rfl, _, rfl, a, C, rfl, T, n0, .inl ⟨ha, k⟩⟩⟩
theorem sc_NameTaken : FnScope ["self", "name"] ["self", "name"] (defScope (inClass (top 33) 0)) := ⟨rfl, rfl, rfl, by decide +kernel, rfl, by decide +kernel, by decide +kernel⟩
theorem ini_NameTaken (F : FnI K 33 "NameTaken" f fd) (T : XC K C) (n0 : PySem.W.findIn K (.ref C) "name" = some none) : FnOk P w K mg base CX0 1 f fd ["self", "name"] (sp1 C "name") := by
  refine F.ok sc_NameTaken (fun vs H Q E h => ?_) (fun cdv A outer s H vs Q E hr h => ?_)
  · obtain ⟨a, v, rfl, _⟩ := h
    rfl
  · obtain ⟨a, v, rfl, ha, k⟩ := h
    exact ⟨_, PSs.nox (pss_one (ps_ostX (pv 0) (pv 1))), ⟨_, rfl, _, rfl, a, C, rfl, T, n0, .inl ⟨ha, k⟩⟩⟩
theorem sc_TooMany : FnScope ["self", "what", "limit"] ["self", "what", "limit"] (defScope (inClass (top 36) 0)) := ⟨rfl, rfl, rfl, by decide +kernel, rfl, by decide +kernel, by decide +kernel⟩
theorem ini_TooMany (F : FnI K 36 "TooMany" f fd) (T : XC K C) (n0 : PySem.W.findIn K (.ref C) "what" = some none) (n1 : PySem.W.findIn K (.ref C) "limit" = some none) : FnOk P w K mg base CX0 1 f fd ["self", "what", "limit"] (sp2 C "what" "limit") := by
  refine F.ok sc_TooMany (fun vs H Q E h => ?_) (fun cdv A outer s H vs Q E hr h => ?_)
  · obtain ⟨a, v, u, rfl, _⟩ := h
    rfl
  · obtain ⟨a, v, u, rfl, ha, k⟩ := h
    refine ⟨_, PSs.nox (pss_cons (ps_ostX (pv 0) (pv 1)) (pss_one (ps_ostX (pv 0) (pv 2)))), ⟨_, rfl, _, rfl, a, C, rfl, T, n0, .inl ⟨ha, fun d hd ne => ?_⟩⟩⟩
    exact ⟨_, rfl, _, rfl, a, C, rfl, T, n1, .inr ⟨d, [("what", v)], upd_same, (upd_ne ne).trans upd_same, (by show 1 ≤ 900; decide), k d hd ne⟩⟩
end
end K15

namespace K15
open PySem PySem.Spec PyProof.Rows L2
local macro_rules | `(tactic| walk_at "rd1") => `(tactic| first
  | (with_reducible refine Rd.seq ?_) | (with_reducible refine Rd.asg ?_) | (with_reducible refine Rd.ret ?_) | (with_reducible refine Rd.nxt ?_) | (with_reducible refine Rd.ifS ?_)
  | (with_reducible refine Rd.op ?_) | (with_reducible refine Rd.un ?_) | (with_reducible refine Rd.cb ?_) | (with_reducible refine Rd.cons ?_) | (with_reducible refine Rd.nil ?_) | (with_reducible refine Rd.ifx ?_)
  | (with_reducible refine Rd.test ?_) | (with_reducible refine Rd.testB ?_) | (with_reducible refine Rd.notT ?_) | (with_reducible refine Rd.isB ?_) | (with_reducible refine Rd.lst ?_) | (with_reducible refine Rd.tup ?_)
  | (with_reducible refine Rd.call ?_) | (with_reducible refine Rd.asgG ?_) | (with_reducible refine Rd.gNm ?_) | (with_reducible refine Rd.gSb ?_) | (with_reducible refine Rd.gC ?_) | (with_reducible refine Rd.gN ?_)
  | ((with_reducible refine' Rd.var ?hv ?_); (case hv => exact rfl)) | (with_reducible refine Rd.c ?_) | (with_reducible refine Rd.i0 ?_) | (with_reducible refine Rd.neg ?_)
  | ((with_reducible refine' Rd.iC ?hc ?_); (case hc => first | (show (0 : Int) < _; decide) | exact ⟨by decide, by decide⟩ | exact ⟨by decide, by decide, by decide⟩ | exact .inl ⟨by decide, by decide⟩ | exact .inr ⟨by decide, by decide⟩ | exact .inl ⟨by omega, by omega⟩ | (show (0 : Int) < _; omega) | exact ⟨by omega, by omega⟩))
  | ((with_reducible refine' Rd.eqS ?hc ?_); (case hc => rfl)) | ((with_reducible refine' Rd.neS ?hc ?_); (case hc => rfl)))
local macro_rules | `(tactic| walk_at "rd") => `(tactic| repeat walk_at "rd1")

/-! ### errors that were made -/
/-- the fields of an error of a row, made of v and u (the last stored one first) -/
def fldsOf (r : Ec) (v u : V) : List (Str × V) := match r.fs with
  | [] => []
  | [f] => [(f, v)]
  | f :: g :: _ => [(g, u), (f, v)]
/-- an error of the row r stands at a, made of v and u -/
def ErrAt (K : PySem.W.Frag) (H : Hp) (v u : V) (a : Addr) (r : Ec) : Prop := (r.fs = [] ∧ H a = some (exo a (He.ga K r.name) none)) ∨ (r.fs ≠ [] ∧ ∃ d, H a = some (exo a (He.ga K r.name) (some d)) ∧ H d = some (exd d (fldsOf r v u)))
theorem ErrAt.same {K : PySem.W.Frag} {H H' : Hp} {v u : V} {a : Addr} {r : Ec} (e : Same H H') (h : ErrAt K H v u a r) : ErrAt K H' v u a r := by
  rcases h with ⟨h1, h2⟩ | ⟨h1, d, h2, h3⟩
  · exact .inl ⟨h1, e _ _ h2⟩
  · exact .inr ⟨h1, d, e _ _ h2, e _ _ h3⟩
abbrev Errs (K : PySem.W.Frag) (H : Hp) (v u : V) : List Addr → List Ec → Prop := Paired (ErrAt K H v u)
theorem Errs.same {K : PySem.W.Frag} {H H' : Hp} {v u : V} {as : List Addr} {rs : List Ec} (e : Same H H') (h : Errs K H v u as rs) : Errs K H' v u as rs := Paired.mapP h fun _ _ z => z.same e
theorem Errs.snoc {K : PySem.W.Frag} {H H' : Hp} {v u : V} {a : Addr} {r : Ec} (e : Same H H') (h' : ErrAt K H' v u a r) : ∀ {as : List Addr} {rs : List Ec}, Errs K H v u as rs → Errs K H' v u (as ++ [a]) (rs ++ [r])
  | _, _, .nil => .cons h' .nil
  | _, _, .cons q t => .cons (q.same e) (Errs.snoc e h' t)
/-! the readings of the calls that make them -/
section
variable {K : PySem.W.Frag} {C : Addr} {σ : L2.St} {H : Hp} {Q : VK} {f g : Str} {v u : V} {i j : Nat}
theorem made_same {a d : Addr} {o o' : HO} (ha : H a = none) (hd : H d = none) (ne : d ≠ a) : Same H (upd (upd H d o) a o') := fun b z e => by
  rw [upd_ne (ne_of_none e ha), upd_ne (ne_of_none e hd)]
  exact e
theorem made1 {a d : Addr} (ha : H a = none) (hd : upd H a (exo a C none) d = none) (ne : d ≠ a) : Same H (upd (upd (upd H a (exo a C none)) d (exd d [(f, v)])) a (exo a C (some d))) := fun b z e => by
  have na := ne_of_none e ha
  have nd : b ≠ d := fun z => by
    rw [← z, upd_ne na, e] at hd
    cases hd
  rw [upd_ne na, upd_ne nd, upd_ne na]
  exact e
theorem rd_1 {r : Ec} (er : r.fs = [f]) (ec : C = He.ga K r.name) (hi : σ[i]? = some (some v)) (h : ∀ a G, Same H G → ErrAt K G v u a r → Q (.ref a) G) : tMkX C (sp1 C f) (tCons (tVar i) tNil) σ H Q := by
  refine ⟨v, hi, by show 1 ≤ 1000; decide, fun a ha => ⟨a, v, rfl, upd_same, fun d hd ne => ⟨rfl, h a _ (made1 ha hd ne) (.inr ⟨by rw [er]; simp, d, ?_, ?_⟩)⟩⟩⟩
  · rw [upd_same, ec]
  · rw [upd_ne ne, upd_same]
    unfold fldsOf
    rw [er]
theorem rd_2 {r : Ec} (er : r.fs = [f, g]) (ec : C = He.ga K r.name) (hi : σ[i]? = some (some v)) (hj : σ[j]? = some (some u)) (h : ∀ a G, Same H G → ErrAt K G v u a r → Q (.ref a) G) : tMkX C (sp2 C f g) (tCons (tVar i) (tCons (tVar j) tNil)) σ H Q := by
  refine ⟨v, hi, u, hj, by show 2 ≤ 1000; decide, fun a ha => ⟨a, v, u, rfl, upd_same, fun d hd ne => ⟨rfl, h a _ (fun b z e => ?_) (.inr ⟨by rw [er]; simp, d, ?_, ?_⟩)⟩⟩⟩
  · have m := made1 (f := f) (v := v) ha hd ne b z e
    have nd : b ≠ d := fun y => by
      rw [← y, upd_ne (ne_of_none e ha), e] at hd
      cases hd
    rw [upd_ne nd]
    exact m
  · rw [upd_ne ne.symm, upd_same, ec]
  · rw [upd_same]
    unfold fldsOf
    rw [er]
theorem rd_0 {r : Ec} (er : r.fs = []) (ec : C = He.ga K r.name) (h : ∀ a G, Same H G → ErrAt K G v u a r → Q (.ref a) G) : tMk0 C σ H Q :=
  fun a ha => h a _ (same_new ha) (.inl ⟨er, by rw [upd_same, ec]⟩)
/-- by one keyword -/
theorem rd_k1 {r : Ec} (er : r.fs = [f]) (ec : C = He.ga K r.name) (hi : σ[i]? = some (some v)) (h : ∀ a G, Same H G → ErrAt K G v u a r → Q (.ref a) G) :
    tMkXK C 1 (sp1 C f) id (tCons (tVar i) tNil) σ H Q := by
  obtain ⟨w, e, _, k⟩ := rd_1 (C := C) er ec hi h
  rw [hi] at e
  cases e
  exact ⟨v, hi, rfl, k⟩
/-- by two keywords, the second one first -/
theorem rd_k2 {r : Ec} (er : r.fs = [f, g]) (ec : C = He.ga K r.name) (hi : σ[i]? = some (some v)) (hj : σ[j]? = some (some u)) (h : ∀ a G, Same H G → ErrAt K G v u a r → Q (.ref a) G) :
    tMkXK C 2 (sp2 C f g) List.reverse (tCons (tVar j) (tCons (tVar i) tNil)) σ H Q := by
  obtain ⟨w, e, w2, e2, _, k⟩ := rd_2 (C := C) er ec hi hj h
  rw [hi] at e
  rw [hj] at e2
  cases e
  cases e2
  exact ⟨u, hj, v, hi, rfl, k⟩
end
theorem FunDkb {K : PySem.W.Frag} {x qual : Str} {params : Arguments} {body : List Stmt} {scope : Scope} {f : Addr} {fd : FuncData} {ps ks : List Str} {g : List Value → List Value} {gV : List V → List V} (F : FunD K x qual params body scope [] [] f fd)
    (hrel : ∀ {zs : List V} {ws : List Value}, zs.length = ks.length → Vals zs ws → Vals (gV zs) (g ws))
    (h : ∀ (kV doc pm : Value) (an : Option Addr) (cdv ct : Value) (u : Value) (ws : List Value), ws.length = ks.length → bindArgs (PySem.W.fnOf x qual params body scope .none kV doc pm an cdv ct) ⟨[u], ks.zip ws⟩ = pure (ps.zip (u :: g ws))) : KB K fd ps ks g gV := by
  obtain ⟨_, _, _, kV, doc, pm, an, cdv, ct, _, rfl, _, _, hD, _⟩ := F.ex
  match hD with
  | .inl ⟨_, z⟩ =>
    subst z
    exact ⟨fun s a ws _ hl => .of_eq (h kV doc pm an cdv ct (.ref a) ws hl), hrel⟩
  | .inr ⟨e, _⟩ => exact absurd rfl e
theorem vals_rev {zs : List V} {ws : List Value} (h : Vals zs ws) : Vals zs.reverse ws.reverse := by
  induction h with
  | nil => exact .nil
  | cons r t ih =>
    rw [List.reverse_cons, List.reverse_cons]
    exact ih.append (.cons r .nil)
/-- all that is known of the classes: each row, each __init__ -/
structure Cl (K : PySem.W.Frag) (mg : Str → Option Value) : Prop where
  row : ∀ r ∈ rows, RowOk K mg r
  f_InvalidNumber : ∃ fd, FnI K 2 "InvalidNumber" (He.ma K (He.ga K "InvalidNumber") "__init__") fd
  f_InvalidName : ∃ fd, FnI K 3 "InvalidName" (He.ma K (He.ga K "InvalidName") "__init__") fd
  f_InvalidFormula : ∃ fd, FnI K 4 "InvalidFormula" (He.ma K (He.ga K "InvalidFormula") "__init__") fd
  f_InvalidChosen : ∃ fd, FnI K 5 "InvalidChosen" (He.ma K (He.ga K "InvalidChosen") "__init__") fd
  f_InvalidWhere : ∃ fd, FnI K 6 "InvalidWhere" (He.ma K (He.ga K "InvalidWhere") "__init__") fd
  f_InvalidPosition : ∃ fd, FnI K 7 "InvalidPosition" (He.ma K (He.ga K "InvalidPosition") "__init__") fd
  f_InvalidColumns : ∃ fd, FnI K 8 "InvalidColumns" (He.ma K (He.ga K "InvalidColumns") "__init__") fd
  f_InvalidTop : ∃ fd, FnI K 9 "InvalidTop" (He.ma K (He.ga K "InvalidTop") "__init__") fd
  f_InvalidKinds : ∃ fd, FnI K 10 "InvalidKinds" (He.ma K (He.ga K "InvalidKinds") "__init__") fd
  f_InvalidPlan : ∃ fd, FnI K 11 "InvalidPlan" (He.ma K (He.ga K "InvalidPlan") "__init__") fd
  f_InvalidWord : ∃ fd, FnI K 12 "InvalidWord" (He.ma K (He.ga K "InvalidWord") "__init__") fd
  f_InvalidFill : ∃ fd, FnI K 13 "InvalidFill" (He.ma K (He.ga K "InvalidFill") "__init__") fd
  f_InvalidFoot : ∃ fd, FnI K 14 "InvalidFoot" (He.ma K (He.ga K "InvalidFoot") "__init__") fd
  f_InvalidRow : ∃ fd, FnI K 15 "InvalidRow" (He.ma K (He.ga K "InvalidRow") "__init__") fd
  f_InvalidCount : ∃ fd, FnI K 16 "InvalidCount" (He.ma K (He.ga K "InvalidCount") "__init__") fd
  f_InvalidAbove : ∃ fd, FnI K 17 "InvalidAbove" (He.ma K (He.ga K "InvalidAbove") "__init__") fd
  f_InvalidTable : ∃ fd, FnI K 18 "InvalidTable" (He.ma K (He.ga K "InvalidTable") "__init__") fd
  f_InvalidStates : ∃ fd, FnI K 19 "InvalidStates" (He.ma K (He.ga K "InvalidStates") "__init__") fd
  f_InvalidText : ∃ fd, FnI K 20 "InvalidText" (He.ma K (He.ga K "InvalidText") "__init__") fd
  f_InvalidClaim : ∃ fd, FnI K 21 "InvalidClaim" (He.ma K (He.ga K "InvalidClaim") "__init__") fd
  f_InvalidCommand : ∃ fd, FnI K 22 "InvalidCommand" (He.ma K (He.ga K "InvalidCommand") "__init__") fd
  f_UnknownColumn : ∃ fd, FnI K 24 "UnknownColumn" (He.ma K (He.ga K "UnknownColumn") "__init__") fd
  f_UnknownKind : ∃ fd, FnI K 25 "UnknownKind" (He.ma K (He.ga K "UnknownKind") "__init__") fd
  f_UnknownPlace : ∃ fd, FnI K 26 "UnknownPlace" (He.ma K (He.ga K "UnknownPlace") "__init__") fd
  f_UnknownName : ∃ fd, FnI K 27 "UnknownName" (He.ma K (He.ga K "UnknownName") "__init__") fd
  f_NotAllowed : ∃ fd, FnI K 29 "NotAllowed" (He.ma K (He.ga K "NotAllowed") "__init__") fd
  f_NotFull : ∃ fd, FnI K 30 "NotFull" (He.ma K (He.ga K "NotFull") "__init__") fd
  f_NotTurning : ∃ fd, FnI K 32 "NotTurning" (He.ma K (He.ga K "NotTurning") "__init__") fd
  f_NameTaken : ∃ fd, FnI K 33 "NameTaken" (He.ma K (He.ga K "NameTaken") "__init__") fd
  f_TooMany : ∃ fd, FnI K 36 "TooMany" (He.ma K (He.ga K "TooMany") "__init__") fd
theorem rows_lit : rows = [⟨"InvalidNumber", 2, 0, ["value"]⟩, ⟨"InvalidName", 3, 0, ["value"]⟩, ⟨"InvalidFormula", 4, 0, ["value"]⟩, ⟨"InvalidChosen", 5, 0, ["value"]⟩, ⟨"InvalidWhere", 6, 0, ["value"]⟩, ⟨"InvalidPosition", 7, 0, ["value"]⟩, ⟨"InvalidColumns", 8, 0, ["position"]⟩, ⟨"InvalidTop", 9, 0, ["column"]⟩, ⟨"InvalidKinds", 10, 0, ["kind", "column"]⟩, ⟨"InvalidPlan", 11, 0, ["place"]⟩, ⟨"InvalidWord", 12, 0, ["position"]⟩, ⟨"InvalidFill", 13, 0, ["part", "position"]⟩, ⟨"InvalidFoot", 14, 0, ["column"]⟩, ⟨"InvalidRow", 15, 0, ["value"]⟩, ⟨"InvalidCount", 16, 0, ["value"]⟩, ⟨"InvalidAbove", 17, 0, ["value"]⟩, ⟨"InvalidTable", 18, 0, ["value"]⟩, ⟨"InvalidStates", 19, 0, ["position"]⟩, ⟨"InvalidText", 20, 0, ["line"]⟩, ⟨"InvalidClaim", 21, 0, ["value"]⟩, ⟨"InvalidCommand", 22, 0, ["value"]⟩, ⟨"UnknownColumn", 24, 1, ["value"]⟩, ⟨"UnknownKind", 25, 1, ["value"]⟩, ⟨"UnknownPlace", 26, 1, ["value"]⟩, ⟨"UnknownName", 27, 1, ["value"]⟩, ⟨"NotAllowed", 29, 2, ["row"]⟩, ⟨"NotFull", 30, 2, ["column"]⟩, ⟨"OtherPlan", 31, 2, []⟩, ⟨"NotTurning", 32, 2, ["place"]⟩, ⟨"NameTaken", 33, 2, ["name"]⟩, ⟨"NothingToUndo", 34, 2, []⟩, ⟨"TooMany", 36, 3, ["what", "limit"]⟩] := rfl
def spBy (K : PySem.W.Frag) : Sp := fun vs H Q _ => ∃ v u, vs = [v, u] ∧ ∀ (as : List Addr) l H', Same H H' → H' l = some (.lst (as.map V.ref)) → Errs K H' v u as rows → Q (.ref l) H'
abbrev sByPos : Stmt := top 42
abbrev sByName : Stmt := top 43
section
variable {P : Program} {w : World} {K : PySem.W.Frag} {mg : Str → Option Value} {base : Heap} {f : Addr} {fd : FuncData}
theorem sc_pos : FnScope ["_law_first", "_law_more", "_law_found"] ["_law_first", "_law_more"] (defScope sByPos) := ⟨rfl, rfl, rfl, by decide +kernel, rfl, by decide +kernel, by decide +kernel⟩
theorem ok_pos (F : FnP K "_law_by_position" sByPos f fd) (T : Cl K mg) : FnOk P w K mg base CX0 3 f fd ["_law_first", "_law_more"] (spBy K) := by
  have r0 : RowOk K mg ⟨"InvalidNumber", 2, 0, ["value"]⟩ := T.row _ (List.mem_of_getElem? (i := 0) rfl)
  obtain ⟨fd0, F0⟩ := T.f_InvalidNumber
  have I0 : FnOk P w K mg base CX0 1 _ fd0 ["self", "value"] _ := ini_InvalidNumber F0 r0.xc (r0.no "value" (by simp))
  have b0 : Binds K fd0 ["self", "value"] [] := F0.bindsN fun _ _ _ _ _ _ us hl => match us, hl with | [_, _], _ => rfl
  have r1 : RowOk K mg ⟨"InvalidName", 3, 0, ["value"]⟩ := T.row _ (List.mem_of_getElem? (i := 1) rfl)
  obtain ⟨fd1, F1⟩ := T.f_InvalidName
  have I1 : FnOk P w K mg base CX0 1 _ fd1 ["self", "value"] _ := ini_InvalidName F1 r1.xc (r1.no "value" (by simp))
  have b1 : Binds K fd1 ["self", "value"] [] := F1.bindsN fun _ _ _ _ _ _ us hl => match us, hl with | [_, _], _ => rfl
  have r2 : RowOk K mg ⟨"InvalidFormula", 4, 0, ["value"]⟩ := T.row _ (List.mem_of_getElem? (i := 2) rfl)
  obtain ⟨fd2, F2⟩ := T.f_InvalidFormula
  have I2 : FnOk P w K mg base CX0 1 _ fd2 ["self", "value"] _ := ini_InvalidFormula F2 r2.xc (r2.no "value" (by simp))
  have b2 : Binds K fd2 ["self", "value"] [] := F2.bindsN fun _ _ _ _ _ _ us hl => match us, hl with | [_, _], _ => rfl
  have r3 : RowOk K mg ⟨"InvalidChosen", 5, 0, ["value"]⟩ := T.row _ (List.mem_of_getElem? (i := 3) rfl)
  obtain ⟨fd3, F3⟩ := T.f_InvalidChosen
  have I3 : FnOk P w K mg base CX0 1 _ fd3 ["self", "value"] _ := ini_InvalidChosen F3 r3.xc (r3.no "value" (by simp))
  have b3 : Binds K fd3 ["self", "value"] [] := F3.bindsN fun _ _ _ _ _ _ us hl => match us, hl with | [_, _], _ => rfl
  have r4 : RowOk K mg ⟨"InvalidWhere", 6, 0, ["value"]⟩ := T.row _ (List.mem_of_getElem? (i := 4) rfl)
  obtain ⟨fd4, F4⟩ := T.f_InvalidWhere
  have I4 : FnOk P w K mg base CX0 1 _ fd4 ["self", "value"] _ := ini_InvalidWhere F4 r4.xc (r4.no "value" (by simp))
  have b4 : Binds K fd4 ["self", "value"] [] := F4.bindsN fun _ _ _ _ _ _ us hl => match us, hl with | [_, _], _ => rfl
  have r5 : RowOk K mg ⟨"InvalidPosition", 7, 0, ["value"]⟩ := T.row _ (List.mem_of_getElem? (i := 5) rfl)
  obtain ⟨fd5, F5⟩ := T.f_InvalidPosition
  have I5 : FnOk P w K mg base CX0 1 _ fd5 ["self", "value"] _ := ini_InvalidPosition F5 r5.xc (r5.no "value" (by simp))
  have b5 : Binds K fd5 ["self", "value"] [] := F5.bindsN fun _ _ _ _ _ _ us hl => match us, hl with | [_, _], _ => rfl
  have r6 : RowOk K mg ⟨"InvalidColumns", 8, 0, ["position"]⟩ := T.row _ (List.mem_of_getElem? (i := 6) rfl)
  obtain ⟨fd6, F6⟩ := T.f_InvalidColumns
  have I6 : FnOk P w K mg base CX0 1 _ fd6 ["self", "position"] _ := ini_InvalidColumns F6 r6.xc (r6.no "position" (by simp))
  have b6 : Binds K fd6 ["self", "position"] [] := F6.bindsN fun _ _ _ _ _ _ us hl => match us, hl with | [_, _], _ => rfl
  have r7 : RowOk K mg ⟨"InvalidTop", 9, 0, ["column"]⟩ := T.row _ (List.mem_of_getElem? (i := 7) rfl)
  obtain ⟨fd7, F7⟩ := T.f_InvalidTop
  have I7 : FnOk P w K mg base CX0 1 _ fd7 ["self", "column"] _ := ini_InvalidTop F7 r7.xc (r7.no "column" (by simp))
  have b7 : Binds K fd7 ["self", "column"] [] := F7.bindsN fun _ _ _ _ _ _ us hl => match us, hl with | [_, _], _ => rfl
  have r8 : RowOk K mg ⟨"InvalidKinds", 10, 0, ["kind", "column"]⟩ := T.row _ (List.mem_of_getElem? (i := 8) rfl)
  obtain ⟨fd8, F8⟩ := T.f_InvalidKinds
  have I8 : FnOk P w K mg base CX0 1 _ fd8 ["self", "kind", "column"] _ := ini_InvalidKinds F8 r8.xc (r8.no "kind" (by simp)) (r8.no "column" (by simp))
  have b8 : Binds K fd8 ["self", "kind", "column"] [] := F8.bindsN fun _ _ _ _ _ _ us hl => match us, hl with | [_, _, _], _ => rfl
  have r9 : RowOk K mg ⟨"InvalidPlan", 11, 0, ["place"]⟩ := T.row _ (List.mem_of_getElem? (i := 9) rfl)
  obtain ⟨fd9, F9⟩ := T.f_InvalidPlan
  have I9 : FnOk P w K mg base CX0 1 _ fd9 ["self", "place"] _ := ini_InvalidPlan F9 r9.xc (r9.no "place" (by simp))
  have b9 : Binds K fd9 ["self", "place"] [] := F9.bindsN fun _ _ _ _ _ _ us hl => match us, hl with | [_, _], _ => rfl
  have r10 : RowOk K mg ⟨"InvalidWord", 12, 0, ["position"]⟩ := T.row _ (List.mem_of_getElem? (i := 10) rfl)
  obtain ⟨fd10, F10⟩ := T.f_InvalidWord
  have I10 : FnOk P w K mg base CX0 1 _ fd10 ["self", "position"] _ := ini_InvalidWord F10 r10.xc (r10.no "position" (by simp))
  have b10 : Binds K fd10 ["self", "position"] [] := F10.bindsN fun _ _ _ _ _ _ us hl => match us, hl with | [_, _], _ => rfl
  have r11 : RowOk K mg ⟨"InvalidFill", 13, 0, ["part", "position"]⟩ := T.row _ (List.mem_of_getElem? (i := 11) rfl)
  obtain ⟨fd11, F11⟩ := T.f_InvalidFill
  have I11 : FnOk P w K mg base CX0 1 _ fd11 ["self", "part", "position"] _ := ini_InvalidFill F11 r11.xc (r11.no "part" (by simp)) (r11.no "position" (by simp))
  have b11 : Binds K fd11 ["self", "part", "position"] [] := F11.bindsN fun _ _ _ _ _ _ us hl => match us, hl with | [_, _, _], _ => rfl
  have r12 : RowOk K mg ⟨"InvalidFoot", 14, 0, ["column"]⟩ := T.row _ (List.mem_of_getElem? (i := 12) rfl)
  obtain ⟨fd12, F12⟩ := T.f_InvalidFoot
  have I12 : FnOk P w K mg base CX0 1 _ fd12 ["self", "column"] _ := ini_InvalidFoot F12 r12.xc (r12.no "column" (by simp))
  have b12 : Binds K fd12 ["self", "column"] [] := F12.bindsN fun _ _ _ _ _ _ us hl => match us, hl with | [_, _], _ => rfl
  have r13 : RowOk K mg ⟨"InvalidRow", 15, 0, ["value"]⟩ := T.row _ (List.mem_of_getElem? (i := 13) rfl)
  obtain ⟨fd13, F13⟩ := T.f_InvalidRow
  have I13 : FnOk P w K mg base CX0 1 _ fd13 ["self", "value"] _ := ini_InvalidRow F13 r13.xc (r13.no "value" (by simp))
  have b13 : Binds K fd13 ["self", "value"] [] := F13.bindsN fun _ _ _ _ _ _ us hl => match us, hl with | [_, _], _ => rfl
  have r14 : RowOk K mg ⟨"InvalidCount", 16, 0, ["value"]⟩ := T.row _ (List.mem_of_getElem? (i := 14) rfl)
  obtain ⟨fd14, F14⟩ := T.f_InvalidCount
  have I14 : FnOk P w K mg base CX0 1 _ fd14 ["self", "value"] _ := ini_InvalidCount F14 r14.xc (r14.no "value" (by simp))
  have b14 : Binds K fd14 ["self", "value"] [] := F14.bindsN fun _ _ _ _ _ _ us hl => match us, hl with | [_, _], _ => rfl
  have r15 : RowOk K mg ⟨"InvalidAbove", 17, 0, ["value"]⟩ := T.row _ (List.mem_of_getElem? (i := 15) rfl)
  obtain ⟨fd15, F15⟩ := T.f_InvalidAbove
  have I15 : FnOk P w K mg base CX0 1 _ fd15 ["self", "value"] _ := ini_InvalidAbove F15 r15.xc (r15.no "value" (by simp))
  have b15 : Binds K fd15 ["self", "value"] [] := F15.bindsN fun _ _ _ _ _ _ us hl => match us, hl with | [_, _], _ => rfl
  have r16 : RowOk K mg ⟨"InvalidTable", 18, 0, ["value"]⟩ := T.row _ (List.mem_of_getElem? (i := 16) rfl)
  obtain ⟨fd16, F16⟩ := T.f_InvalidTable
  have I16 : FnOk P w K mg base CX0 1 _ fd16 ["self", "value"] _ := ini_InvalidTable F16 r16.xc (r16.no "value" (by simp))
  have b16 : Binds K fd16 ["self", "value"] [] := F16.bindsN fun _ _ _ _ _ _ us hl => match us, hl with | [_, _], _ => rfl
  have r17 : RowOk K mg ⟨"InvalidStates", 19, 0, ["position"]⟩ := T.row _ (List.mem_of_getElem? (i := 17) rfl)
  obtain ⟨fd17, F17⟩ := T.f_InvalidStates
  have I17 : FnOk P w K mg base CX0 1 _ fd17 ["self", "position"] _ := ini_InvalidStates F17 r17.xc (r17.no "position" (by simp))
  have b17 : Binds K fd17 ["self", "position"] [] := F17.bindsN fun _ _ _ _ _ _ us hl => match us, hl with | [_, _], _ => rfl
  have r18 : RowOk K mg ⟨"InvalidText", 20, 0, ["line"]⟩ := T.row _ (List.mem_of_getElem? (i := 18) rfl)
  obtain ⟨fd18, F18⟩ := T.f_InvalidText
  have I18 : FnOk P w K mg base CX0 1 _ fd18 ["self", "line"] _ := ini_InvalidText F18 r18.xc (r18.no "line" (by simp))
  have b18 : Binds K fd18 ["self", "line"] [] := F18.bindsN fun _ _ _ _ _ _ us hl => match us, hl with | [_, _], _ => rfl
  have r19 : RowOk K mg ⟨"InvalidClaim", 21, 0, ["value"]⟩ := T.row _ (List.mem_of_getElem? (i := 19) rfl)
  obtain ⟨fd19, F19⟩ := T.f_InvalidClaim
  have I19 : FnOk P w K mg base CX0 1 _ fd19 ["self", "value"] _ := ini_InvalidClaim F19 r19.xc (r19.no "value" (by simp))
  have b19 : Binds K fd19 ["self", "value"] [] := F19.bindsN fun _ _ _ _ _ _ us hl => match us, hl with | [_, _], _ => rfl
  have r20 : RowOk K mg ⟨"InvalidCommand", 22, 0, ["value"]⟩ := T.row _ (List.mem_of_getElem? (i := 20) rfl)
  obtain ⟨fd20, F20⟩ := T.f_InvalidCommand
  have I20 : FnOk P w K mg base CX0 1 _ fd20 ["self", "value"] _ := ini_InvalidCommand F20 r20.xc (r20.no "value" (by simp))
  have b20 : Binds K fd20 ["self", "value"] [] := F20.bindsN fun _ _ _ _ _ _ us hl => match us, hl with | [_, _], _ => rfl
  have r21 : RowOk K mg ⟨"UnknownColumn", 24, 1, ["value"]⟩ := T.row _ (List.mem_of_getElem? (i := 21) rfl)
  obtain ⟨fd21, F21⟩ := T.f_UnknownColumn
  have I21 : FnOk P w K mg base CX0 1 _ fd21 ["self", "value"] _ := ini_UnknownColumn F21 r21.xc (r21.no "value" (by simp))
  have b21 : Binds K fd21 ["self", "value"] [] := F21.bindsN fun _ _ _ _ _ _ us hl => match us, hl with | [_, _], _ => rfl
  have r22 : RowOk K mg ⟨"UnknownKind", 25, 1, ["value"]⟩ := T.row _ (List.mem_of_getElem? (i := 22) rfl)
  obtain ⟨fd22, F22⟩ := T.f_UnknownKind
  have I22 : FnOk P w K mg base CX0 1 _ fd22 ["self", "value"] _ := ini_UnknownKind F22 r22.xc (r22.no "value" (by simp))
  have b22 : Binds K fd22 ["self", "value"] [] := F22.bindsN fun _ _ _ _ _ _ us hl => match us, hl with | [_, _], _ => rfl
  have r23 : RowOk K mg ⟨"UnknownPlace", 26, 1, ["value"]⟩ := T.row _ (List.mem_of_getElem? (i := 23) rfl)
  obtain ⟨fd23, F23⟩ := T.f_UnknownPlace
  have I23 : FnOk P w K mg base CX0 1 _ fd23 ["self", "value"] _ := ini_UnknownPlace F23 r23.xc (r23.no "value" (by simp))
  have b23 : Binds K fd23 ["self", "value"] [] := F23.bindsN fun _ _ _ _ _ _ us hl => match us, hl with | [_, _], _ => rfl
  have r24 : RowOk K mg ⟨"UnknownName", 27, 1, ["value"]⟩ := T.row _ (List.mem_of_getElem? (i := 24) rfl)
  obtain ⟨fd24, F24⟩ := T.f_UnknownName
  have I24 : FnOk P w K mg base CX0 1 _ fd24 ["self", "value"] _ := ini_UnknownName F24 r24.xc (r24.no "value" (by simp))
  have b24 : Binds K fd24 ["self", "value"] [] := F24.bindsN fun _ _ _ _ _ _ us hl => match us, hl with | [_, _], _ => rfl
  have r25 : RowOk K mg ⟨"NotAllowed", 29, 2, ["row"]⟩ := T.row _ (List.mem_of_getElem? (i := 25) rfl)
  obtain ⟨fd25, F25⟩ := T.f_NotAllowed
  have I25 : FnOk P w K mg base CX0 1 _ fd25 ["self", "row"] _ := ini_NotAllowed F25 r25.xc (r25.no "row" (by simp))
  have b25 : Binds K fd25 ["self", "row"] [] := F25.bindsN fun _ _ _ _ _ _ us hl => match us, hl with | [_, _], _ => rfl
  have r26 : RowOk K mg ⟨"NotFull", 30, 2, ["column"]⟩ := T.row _ (List.mem_of_getElem? (i := 26) rfl)
  obtain ⟨fd26, F26⟩ := T.f_NotFull
  have I26 : FnOk P w K mg base CX0 1 _ fd26 ["self", "column"] _ := ini_NotFull F26 r26.xc (r26.no "column" (by simp))
  have b26 : Binds K fd26 ["self", "column"] [] := F26.bindsN fun _ _ _ _ _ _ us hl => match us, hl with | [_, _], _ => rfl
  have r27 : RowOk K mg ⟨"OtherPlan", 31, 2, []⟩ := T.row _ (List.mem_of_getElem? (i := 27) rfl)
  have r28 : RowOk K mg ⟨"NotTurning", 32, 2, ["place"]⟩ := T.row _ (List.mem_of_getElem? (i := 28) rfl)
  obtain ⟨fd28, F28⟩ := T.f_NotTurning
  have I28 : FnOk P w K mg base CX0 1 _ fd28 ["self", "place"] _ := ini_NotTurning F28 r28.xc (r28.no "place" (by simp))
  have b28 : Binds K fd28 ["self", "place"] [] := F28.bindsN fun _ _ _ _ _ _ us hl => match us, hl with | [_, _], _ => rfl
  have r29 : RowOk K mg ⟨"NameTaken", 33, 2, ["name"]⟩ := T.row _ (List.mem_of_getElem? (i := 29) rfl)
  obtain ⟨fd29, F29⟩ := T.f_NameTaken
  have I29 : FnOk P w K mg base CX0 1 _ fd29 ["self", "name"] _ := ini_NameTaken F29 r29.xc (r29.no "name" (by simp))
  have b29 : Binds K fd29 ["self", "name"] [] := F29.bindsN fun _ _ _ _ _ _ us hl => match us, hl with | [_, _], _ => rfl
  have r30 : RowOk K mg ⟨"NothingToUndo", 34, 2, []⟩ := T.row _ (List.mem_of_getElem? (i := 30) rfl)
  have r31 : RowOk K mg ⟨"TooMany", 36, 3, ["what", "limit"]⟩ := T.row _ (List.mem_of_getElem? (i := 31) rfl)
  obtain ⟨fd31, F31⟩ := T.f_TooMany
  have I31 : FnOk P w K mg base CX0 1 _ fd31 ["self", "what", "limit"] _ := ini_TooMany F31 r31.xc (r31.no "what" (by simp)) (r31.no "limit" (by simp))
  have b31 : Binds K fd31 ["self", "what", "limit"] [] := F31.bindsN fun _ _ _ _ _ _ us hl => match us, hl with | [_, _, _], _ => rfl
  refine F.ok sc_pos (fun vs H Q E h => ?_) (fun cdv A outer s H vs Q E hr h => ?_)
  · obtain ⟨v, u, rfl, _⟩ := h
    rfl
  · obtain ⟨v, u, rfl, q⟩ := h
    have hr2 := hr
    refine ⟨_, PSs.nox (pss_cons (ps_set (i := 2) sc_pos.nd rfl (Or.inl rfl) (pe_lst (pa_cons (pe_exc r0.xc (r0.ini (by simp)).1 (r0.ini (by simp)).2 I0 hr2 b0 pass0 rfl r0.g (pa_cons (pv 0) pa_nil)) (pa_cons (pe_exc r1.xc (r1.ini (by simp)).1 (r1.ini (by simp)).2 I1 hr2 b1 pass0 rfl r1.g (pa_cons (pv 0) pa_nil)) (pa_cons (pe_exc r2.xc (r2.ini (by simp)).1 (r2.ini (by simp)).2 I2 hr2 b2 pass0 rfl r2.g (pa_cons (pv 0) pa_nil)) (pa_cons (pe_exc r3.xc (r3.ini (by simp)).1 (r3.ini (by simp)).2 I3 hr2 b3 pass0 rfl r3.g (pa_cons (pv 0) pa_nil)) (pa_cons (pe_exc r4.xc (r4.ini (by simp)).1 (r4.ini (by simp)).2 I4 hr2 b4 pass0 rfl r4.g (pa_cons (pv 0) pa_nil)) pa_nil)))))))
      (pss_cons (ps_set (i := 2) sc_pos.nd rfl (Or.inl rfl) (pe_op op_cat (pv 2) (pe_lst (pa_cons (pe_exc r5.xc (r5.ini (by simp)).1 (r5.ini (by simp)).2 I5 hr2 b5 pass0 rfl r5.g (pa_cons (pv 0) pa_nil)) (pa_cons (pe_exc r6.xc (r6.ini (by simp)).1 (r6.ini (by simp)).2 I6 hr2 b6 pass0 rfl r6.g (pa_cons (pv 0) pa_nil)) (pa_cons (pe_exc r7.xc (r7.ini (by simp)).1 (r7.ini (by simp)).2 I7 hr2 b7 pass0 rfl r7.g (pa_cons (pv 0) pa_nil)) (pa_cons (pe_exc r8.xc (r8.ini (by simp)).1 (r8.ini (by simp)).2 I8 hr2 b8 pass0 rfl r8.g (pa_cons (pv 0) (pa_cons (pv 1) pa_nil))) pa_nil)))))))
      (pss_cons (ps_set (i := 2) sc_pos.nd rfl (Or.inl rfl) (pe_op op_cat (pv 2) (pe_lst (pa_cons (pe_exc r9.xc (r9.ini (by simp)).1 (r9.ini (by simp)).2 I9 hr2 b9 pass0 rfl r9.g (pa_cons (pv 0) pa_nil)) (pa_cons (pe_exc r10.xc (r10.ini (by simp)).1 (r10.ini (by simp)).2 I10 hr2 b10 pass0 rfl r10.g (pa_cons (pv 0) pa_nil)) (pa_cons (pe_exc r11.xc (r11.ini (by simp)).1 (r11.ini (by simp)).2 I11 hr2 b11 pass0 rfl r11.g (pa_cons (pv 0) (pa_cons (pv 1) pa_nil))) (pa_cons (pe_exc r12.xc (r12.ini (by simp)).1 (r12.ini (by simp)).2 I12 hr2 b12 pass0 rfl r12.g (pa_cons (pv 0) pa_nil)) pa_nil)))))))
      (pss_cons (ps_set (i := 2) sc_pos.nd rfl (Or.inl rfl) (pe_op op_cat (pv 2) (pe_lst (pa_cons (pe_exc r13.xc (r13.ini (by simp)).1 (r13.ini (by simp)).2 I13 hr2 b13 pass0 rfl r13.g (pa_cons (pv 0) pa_nil)) (pa_cons (pe_exc r14.xc (r14.ini (by simp)).1 (r14.ini (by simp)).2 I14 hr2 b14 pass0 rfl r14.g (pa_cons (pv 0) pa_nil)) (pa_cons (pe_exc r15.xc (r15.ini (by simp)).1 (r15.ini (by simp)).2 I15 hr2 b15 pass0 rfl r15.g (pa_cons (pv 0) pa_nil)) (pa_cons (pe_exc r16.xc (r16.ini (by simp)).1 (r16.ini (by simp)).2 I16 hr2 b16 pass0 rfl r16.g (pa_cons (pv 0) pa_nil)) pa_nil)))))))
      (pss_cons (ps_set (i := 2) sc_pos.nd rfl (Or.inl rfl) (pe_op op_cat (pv 2) (pe_lst (pa_cons (pe_exc r17.xc (r17.ini (by simp)).1 (r17.ini (by simp)).2 I17 hr2 b17 pass0 rfl r17.g (pa_cons (pv 0) pa_nil)) (pa_cons (pe_exc r18.xc (r18.ini (by simp)).1 (r18.ini (by simp)).2 I18 hr2 b18 pass0 rfl r18.g (pa_cons (pv 0) pa_nil)) (pa_cons (pe_exc r19.xc (r19.ini (by simp)).1 (r19.ini (by simp)).2 I19 hr2 b19 pass0 rfl r19.g (pa_cons (pv 0) pa_nil)) (pa_cons (pe_exc r20.xc (r20.ini (by simp)).1 (r20.ini (by simp)).2 I20 hr2 b20 pass0 rfl r20.g (pa_cons (pv 0) pa_nil)) pa_nil)))))))
      (pss_cons (ps_set (i := 2) sc_pos.nd rfl (Or.inl rfl) (pe_op op_cat (pv 2) (pe_lst (pa_cons (pe_exc r21.xc (r21.ini (by simp)).1 (r21.ini (by simp)).2 I21 hr2 b21 pass0 rfl r21.g (pa_cons (pv 0) pa_nil)) (pa_cons (pe_exc r22.xc (r22.ini (by simp)).1 (r22.ini (by simp)).2 I22 hr2 b22 pass0 rfl r22.g (pa_cons (pv 0) pa_nil)) (pa_cons (pe_exc r23.xc (r23.ini (by simp)).1 (r23.ini (by simp)).2 I23 hr2 b23 pass0 rfl r23.g (pa_cons (pv 0) pa_nil)) (pa_cons (pe_exc r24.xc (r24.ini (by simp)).1 (r24.ini (by simp)).2 I24 hr2 b24 pass0 rfl r24.g (pa_cons (pv 0) pa_nil)) pa_nil)))))))
      (pss_cons (ps_set (i := 2) sc_pos.nd rfl (Or.inl rfl) (pe_op op_cat (pv 2) (pe_lst (pa_cons (pe_exc r25.xc (r25.ini (by simp)).1 (r25.ini (by simp)).2 I25 hr2 b25 pass0 rfl r25.g (pa_cons (pv 0) pa_nil)) (pa_cons (pe_exc r26.xc (r26.ini (by simp)).1 (r26.ini (by simp)).2 I26 hr2 b26 pass0 rfl r26.g (pa_cons (pv 0) pa_nil)) (pa_cons (pe_exc0 r27.xc PySem.F.excBase_RuntimeError (r27.non rfl) rfl r27.g) (pa_cons (pe_exc r28.xc (r28.ini (by simp)).1 (r28.ini (by simp)).2 I28 hr2 b28 pass0 rfl r28.g (pa_cons (pv 0) pa_nil)) (pa_cons (pe_exc r29.xc (r29.ini (by simp)).1 (r29.ini (by simp)).2 I29 hr2 b29 pass0 rfl r29.g (pa_cons (pv 0) pa_nil)) pa_nil))))))))
      (pss_one (ps_ret (pe_op op_cat (pv 2) (pe_lst (pa_cons (pe_exc0 r30.xc PySem.F.excBase_RuntimeError (r30.non rfl) rfl r30.g) (pa_cons (pe_exc r31.xc (r31.ini (by simp)).1 (r31.ini (by simp)).2 I31 hr2 b31 pass0 rfl r31.g (pa_cons (pv 0) (pa_cons (pv 1) pa_nil))) pa_nil))))))))))))), ?_⟩
    have P0 : Errs K H v u [] [] := .nil
    have t0 : Same H H := Same.refl H
    walk_at "rd"
    refine rd_1 (K := K) (u := u) (r := ⟨"InvalidNumber", 2, 0, ["value"]⟩) rfl rfl rfl fun a0 G0 s0 e0 => ?_
    replace P0 := Errs.snoc s0 e0 P0
    replace t0 := t0.trans s0
    walk_at "rd"
    refine rd_1 (K := K) (u := u) (r := ⟨"InvalidName", 3, 0, ["value"]⟩) rfl rfl rfl fun a1 G1 s1 e1 => ?_
    replace P0 := Errs.snoc s1 e1 P0
    replace t0 := t0.trans s1
    walk_at "rd"
    refine rd_1 (K := K) (u := u) (r := ⟨"InvalidFormula", 4, 0, ["value"]⟩) rfl rfl rfl fun a2 G2 s2 e2 => ?_
    replace P0 := Errs.snoc s2 e2 P0
    replace t0 := t0.trans s2
    walk_at "rd"
    refine rd_1 (K := K) (u := u) (r := ⟨"InvalidChosen", 5, 0, ["value"]⟩) rfl rfl rfl fun a3 G3 s3 e3 => ?_
    replace P0 := Errs.snoc s3 e3 P0
    replace t0 := t0.trans s3
    walk_at "rd"
    refine rd_1 (K := K) (u := u) (r := ⟨"InvalidWhere", 6, 0, ["value"]⟩) rfl rfl rfl fun a4 G4 s4 e4 => ?_
    replace P0 := Errs.snoc s4 e4 P0
    replace t0 := t0.trans s4
    walk_at "rd"
    refine ⟨Rd.small (by show 5 ≤ 100000; decide), fun l0 h0 => ?_⟩
    have o0 := upd_same (H := G4) (a := l0) (o := HO.lst [V.ref a0, V.ref a1, V.ref a2, V.ref a3, V.ref a4])
    have z0 := same_new (o := HO.lst [V.ref a0, V.ref a1, V.ref a2, V.ref a3, V.ref a4]) h0
    generalize upd G4 l0 (HO.lst [V.ref a0, V.ref a1, V.ref a2, V.ref a3, V.ref a4]) = N0 at o0 z0 ⊢
    replace P0 := P0.same z0
    replace t0 := t0.trans z0
    walk_at "rd"
    refine rd_1 (K := K) (u := u) (r := ⟨"InvalidPosition", 7, 0, ["value"]⟩) rfl rfl rfl fun a5 G5 s5 e5 => ?_
    replace P0 := Errs.snoc s5 e5 P0
    replace t0 := t0.trans s5
    replace o0 := s5 _ _ o0
    walk_at "rd"
    refine rd_1 (K := K) (u := u) (r := ⟨"InvalidColumns", 8, 0, ["position"]⟩) rfl rfl rfl fun a6 G6 s6 e6 => ?_
    replace P0 := Errs.snoc s6 e6 P0
    replace t0 := t0.trans s6
    replace o0 := s6 _ _ o0
    walk_at "rd"
    refine rd_1 (K := K) (u := u) (r := ⟨"InvalidTop", 9, 0, ["column"]⟩) rfl rfl rfl fun a7 G7 s7 e7 => ?_
    replace P0 := Errs.snoc s7 e7 P0
    replace t0 := t0.trans s7
    replace o0 := s7 _ _ o0
    walk_at "rd"
    refine rd_2 (K := K) (r := ⟨"InvalidKinds", 10, 0, ["kind", "column"]⟩) rfl rfl rfl rfl fun a8 G8 s8 e8 => ?_
    replace P0 := Errs.snoc s8 e8 P0
    replace t0 := t0.trans s8
    replace o0 := s8 _ _ o0
    walk_at "rd"
    refine ⟨Rd.small (by show 4 ≤ 100000; decide), fun l1 h1 => ?_⟩
    have o1 := upd_same (H := G8) (a := l1) (o := HO.lst [V.ref a5, V.ref a6, V.ref a7, V.ref a8])
    have z1 := same_new (o := HO.lst [V.ref a5, V.ref a6, V.ref a7, V.ref a8]) h1
    generalize upd G8 l1 (HO.lst [V.ref a5, V.ref a6, V.ref a7, V.ref a8]) = N1 at o1 z1 ⊢
    replace P0 := P0.same z1
    replace t0 := t0.trans z1
    replace o0 := z1 _ _ o0
    walk_at "rd"
    refine ⟨_, _, _, _, rfl, rfl, o0, o1, Rd.small (by show 9 ≤ 100000; decide), fun c1 k1 => ?_⟩
    have x1 : upd N1 c1 (HO.lst [V.ref a0, V.ref a1, V.ref a2, V.ref a3, V.ref a4, V.ref a5, V.ref a6, V.ref a7, V.ref a8]) c1 = some (HO.lst [V.ref a0, V.ref a1, V.ref a2, V.ref a3, V.ref a4, V.ref a5, V.ref a6, V.ref a7, V.ref a8]) := upd_same
    have y1 := same_new (o := HO.lst [V.ref a0, V.ref a1, V.ref a2, V.ref a3, V.ref a4, V.ref a5, V.ref a6, V.ref a7, V.ref a8]) k1
    replace P0 := P0.same y1
    replace t0 := t0.trans y1
    walk_at "rd"
    refine rd_1 (K := K) (u := u) (r := ⟨"InvalidPlan", 11, 0, ["place"]⟩) rfl rfl rfl fun a9 G9 s9 e9 => ?_
    replace P0 := Errs.snoc s9 e9 P0
    replace t0 := t0.trans s9
    replace x1 := s9 _ _ x1
    walk_at "rd"
    refine rd_1 (K := K) (u := u) (r := ⟨"InvalidWord", 12, 0, ["position"]⟩) rfl rfl rfl fun a10 G10 s10 e10 => ?_
    replace P0 := Errs.snoc s10 e10 P0
    replace t0 := t0.trans s10
    replace x1 := s10 _ _ x1
    walk_at "rd"
    refine rd_2 (K := K) (r := ⟨"InvalidFill", 13, 0, ["part", "position"]⟩) rfl rfl rfl rfl fun a11 G11 s11 e11 => ?_
    replace P0 := Errs.snoc s11 e11 P0
    replace t0 := t0.trans s11
    replace x1 := s11 _ _ x1
    walk_at "rd"
    refine rd_1 (K := K) (u := u) (r := ⟨"InvalidFoot", 14, 0, ["column"]⟩) rfl rfl rfl fun a12 G12 s12 e12 => ?_
    replace P0 := Errs.snoc s12 e12 P0
    replace t0 := t0.trans s12
    replace x1 := s12 _ _ x1
    walk_at "rd"
    refine ⟨Rd.small (by show 4 ≤ 100000; decide), fun l2 h2 => ?_⟩
    have o2 := upd_same (H := G12) (a := l2) (o := HO.lst [V.ref a9, V.ref a10, V.ref a11, V.ref a12])
    have z2 := same_new (o := HO.lst [V.ref a9, V.ref a10, V.ref a11, V.ref a12]) h2
    generalize upd G12 l2 (HO.lst [V.ref a9, V.ref a10, V.ref a11, V.ref a12]) = N2 at o2 z2 ⊢
    replace P0 := P0.same z2
    replace t0 := t0.trans z2
    replace x1 := z2 _ _ x1
    walk_at "rd"
    refine ⟨_, _, _, _, rfl, rfl, x1, o2, Rd.small (by show 13 ≤ 100000; decide), fun c2 k2 => ?_⟩
    have x2 : upd N2 c2 (HO.lst [V.ref a0, V.ref a1, V.ref a2, V.ref a3, V.ref a4, V.ref a5, V.ref a6, V.ref a7, V.ref a8, V.ref a9, V.ref a10, V.ref a11, V.ref a12]) c2 = some (HO.lst [V.ref a0, V.ref a1, V.ref a2, V.ref a3, V.ref a4, V.ref a5, V.ref a6, V.ref a7, V.ref a8, V.ref a9, V.ref a10, V.ref a11, V.ref a12]) := upd_same
    have y2 := same_new (o := HO.lst [V.ref a0, V.ref a1, V.ref a2, V.ref a3, V.ref a4, V.ref a5, V.ref a6, V.ref a7, V.ref a8, V.ref a9, V.ref a10, V.ref a11, V.ref a12]) k2
    replace P0 := P0.same y2
    replace t0 := t0.trans y2
    walk_at "rd"
    refine rd_1 (K := K) (u := u) (r := ⟨"InvalidRow", 15, 0, ["value"]⟩) rfl rfl rfl fun a13 G13 s13 e13 => ?_
    replace P0 := Errs.snoc s13 e13 P0
    replace t0 := t0.trans s13
    replace x2 := s13 _ _ x2
    walk_at "rd"
    refine rd_1 (K := K) (u := u) (r := ⟨"InvalidCount", 16, 0, ["value"]⟩) rfl rfl rfl fun a14 G14 s14 e14 => ?_
    replace P0 := Errs.snoc s14 e14 P0
    replace t0 := t0.trans s14
    replace x2 := s14 _ _ x2
    walk_at "rd"
    refine rd_1 (K := K) (u := u) (r := ⟨"InvalidAbove", 17, 0, ["value"]⟩) rfl rfl rfl fun a15 G15 s15 e15 => ?_
    replace P0 := Errs.snoc s15 e15 P0
    replace t0 := t0.trans s15
    replace x2 := s15 _ _ x2
    walk_at "rd"
    refine rd_1 (K := K) (u := u) (r := ⟨"InvalidTable", 18, 0, ["value"]⟩) rfl rfl rfl fun a16 G16 s16 e16 => ?_
    replace P0 := Errs.snoc s16 e16 P0
    replace t0 := t0.trans s16
    replace x2 := s16 _ _ x2
    walk_at "rd"
    refine ⟨Rd.small (by show 4 ≤ 100000; decide), fun l3 h3 => ?_⟩
    have o3 := upd_same (H := G16) (a := l3) (o := HO.lst [V.ref a13, V.ref a14, V.ref a15, V.ref a16])
    have z3 := same_new (o := HO.lst [V.ref a13, V.ref a14, V.ref a15, V.ref a16]) h3
    generalize upd G16 l3 (HO.lst [V.ref a13, V.ref a14, V.ref a15, V.ref a16]) = N3 at o3 z3 ⊢
    replace P0 := P0.same z3
    replace t0 := t0.trans z3
    replace x2 := z3 _ _ x2
    walk_at "rd"
    refine ⟨_, _, _, _, rfl, rfl, x2, o3, Rd.small (by show 17 ≤ 100000; decide), fun c3 k3 => ?_⟩
    have x3 : upd N3 c3 (HO.lst [V.ref a0, V.ref a1, V.ref a2, V.ref a3, V.ref a4, V.ref a5, V.ref a6, V.ref a7, V.ref a8, V.ref a9, V.ref a10, V.ref a11, V.ref a12, V.ref a13, V.ref a14, V.ref a15, V.ref a16]) c3 = some (HO.lst [V.ref a0, V.ref a1, V.ref a2, V.ref a3, V.ref a4, V.ref a5, V.ref a6, V.ref a7, V.ref a8, V.ref a9, V.ref a10, V.ref a11, V.ref a12, V.ref a13, V.ref a14, V.ref a15, V.ref a16]) := upd_same
    have y3 := same_new (o := HO.lst [V.ref a0, V.ref a1, V.ref a2, V.ref a3, V.ref a4, V.ref a5, V.ref a6, V.ref a7, V.ref a8, V.ref a9, V.ref a10, V.ref a11, V.ref a12, V.ref a13, V.ref a14, V.ref a15, V.ref a16]) k3
    replace P0 := P0.same y3
    replace t0 := t0.trans y3
    walk_at "rd"
    refine rd_1 (K := K) (u := u) (r := ⟨"InvalidStates", 19, 0, ["position"]⟩) rfl rfl rfl fun a17 G17 s17 e17 => ?_
    replace P0 := Errs.snoc s17 e17 P0
    replace t0 := t0.trans s17
    replace x3 := s17 _ _ x3
    walk_at "rd"
    refine rd_1 (K := K) (u := u) (r := ⟨"InvalidText", 20, 0, ["line"]⟩) rfl rfl rfl fun a18 G18 s18 e18 => ?_
    replace P0 := Errs.snoc s18 e18 P0
    replace t0 := t0.trans s18
    replace x3 := s18 _ _ x3
    walk_at "rd"
    refine rd_1 (K := K) (u := u) (r := ⟨"InvalidClaim", 21, 0, ["value"]⟩) rfl rfl rfl fun a19 G19 s19 e19 => ?_
    replace P0 := Errs.snoc s19 e19 P0
    replace t0 := t0.trans s19
    replace x3 := s19 _ _ x3
    walk_at "rd"
    refine rd_1 (K := K) (u := u) (r := ⟨"InvalidCommand", 22, 0, ["value"]⟩) rfl rfl rfl fun a20 G20 s20 e20 => ?_
    replace P0 := Errs.snoc s20 e20 P0
    replace t0 := t0.trans s20
    replace x3 := s20 _ _ x3
    walk_at "rd"
    refine ⟨Rd.small (by show 4 ≤ 100000; decide), fun l4 h4 => ?_⟩
    have o4 := upd_same (H := G20) (a := l4) (o := HO.lst [V.ref a17, V.ref a18, V.ref a19, V.ref a20])
    have z4 := same_new (o := HO.lst [V.ref a17, V.ref a18, V.ref a19, V.ref a20]) h4
    generalize upd G20 l4 (HO.lst [V.ref a17, V.ref a18, V.ref a19, V.ref a20]) = N4 at o4 z4 ⊢
    replace P0 := P0.same z4
    replace t0 := t0.trans z4
    replace x3 := z4 _ _ x3
    walk_at "rd"
    refine ⟨_, _, _, _, rfl, rfl, x3, o4, Rd.small (by show 21 ≤ 100000; decide), fun c4 k4 => ?_⟩
    have x4 : upd N4 c4 (HO.lst [V.ref a0, V.ref a1, V.ref a2, V.ref a3, V.ref a4, V.ref a5, V.ref a6, V.ref a7, V.ref a8, V.ref a9, V.ref a10, V.ref a11, V.ref a12, V.ref a13, V.ref a14, V.ref a15, V.ref a16, V.ref a17, V.ref a18, V.ref a19, V.ref a20]) c4 = some (HO.lst [V.ref a0, V.ref a1, V.ref a2, V.ref a3, V.ref a4, V.ref a5, V.ref a6, V.ref a7, V.ref a8, V.ref a9, V.ref a10, V.ref a11, V.ref a12, V.ref a13, V.ref a14, V.ref a15, V.ref a16, V.ref a17, V.ref a18, V.ref a19, V.ref a20]) := upd_same
    have y4 := same_new (o := HO.lst [V.ref a0, V.ref a1, V.ref a2, V.ref a3, V.ref a4, V.ref a5, V.ref a6, V.ref a7, V.ref a8, V.ref a9, V.ref a10, V.ref a11, V.ref a12, V.ref a13, V.ref a14, V.ref a15, V.ref a16, V.ref a17, V.ref a18, V.ref a19, V.ref a20]) k4
    replace P0 := P0.same y4
    replace t0 := t0.trans y4
    walk_at "rd"
    refine rd_1 (K := K) (u := u) (r := ⟨"UnknownColumn", 24, 1, ["value"]⟩) rfl rfl rfl fun a21 G21 s21 e21 => ?_
    replace P0 := Errs.snoc s21 e21 P0
    replace t0 := t0.trans s21
    replace x4 := s21 _ _ x4
    walk_at "rd"
    refine rd_1 (K := K) (u := u) (r := ⟨"UnknownKind", 25, 1, ["value"]⟩) rfl rfl rfl fun a22 G22 s22 e22 => ?_
    replace P0 := Errs.snoc s22 e22 P0
    replace t0 := t0.trans s22
    replace x4 := s22 _ _ x4
    walk_at "rd"
    refine rd_1 (K := K) (u := u) (r := ⟨"UnknownPlace", 26, 1, ["value"]⟩) rfl rfl rfl fun a23 G23 s23 e23 => ?_
    replace P0 := Errs.snoc s23 e23 P0
    replace t0 := t0.trans s23
    replace x4 := s23 _ _ x4
    walk_at "rd"
    refine rd_1 (K := K) (u := u) (r := ⟨"UnknownName", 27, 1, ["value"]⟩) rfl rfl rfl fun a24 G24 s24 e24 => ?_
    replace P0 := Errs.snoc s24 e24 P0
    replace t0 := t0.trans s24
    replace x4 := s24 _ _ x4
    walk_at "rd"
    refine ⟨Rd.small (by show 4 ≤ 100000; decide), fun l5 h5 => ?_⟩
    have o5 := upd_same (H := G24) (a := l5) (o := HO.lst [V.ref a21, V.ref a22, V.ref a23, V.ref a24])
    have z5 := same_new (o := HO.lst [V.ref a21, V.ref a22, V.ref a23, V.ref a24]) h5
    generalize upd G24 l5 (HO.lst [V.ref a21, V.ref a22, V.ref a23, V.ref a24]) = N5 at o5 z5 ⊢
    replace P0 := P0.same z5
    replace t0 := t0.trans z5
    replace x4 := z5 _ _ x4
    walk_at "rd"
    refine ⟨_, _, _, _, rfl, rfl, x4, o5, Rd.small (by show 25 ≤ 100000; decide), fun c5 k5 => ?_⟩
    have x5 : upd N5 c5 (HO.lst [V.ref a0, V.ref a1, V.ref a2, V.ref a3, V.ref a4, V.ref a5, V.ref a6, V.ref a7, V.ref a8, V.ref a9, V.ref a10, V.ref a11, V.ref a12, V.ref a13, V.ref a14, V.ref a15, V.ref a16, V.ref a17, V.ref a18, V.ref a19, V.ref a20, V.ref a21, V.ref a22, V.ref a23, V.ref a24]) c5 = some (HO.lst [V.ref a0, V.ref a1, V.ref a2, V.ref a3, V.ref a4, V.ref a5, V.ref a6, V.ref a7, V.ref a8, V.ref a9, V.ref a10, V.ref a11, V.ref a12, V.ref a13, V.ref a14, V.ref a15, V.ref a16, V.ref a17, V.ref a18, V.ref a19, V.ref a20, V.ref a21, V.ref a22, V.ref a23, V.ref a24]) := upd_same
    have y5 := same_new (o := HO.lst [V.ref a0, V.ref a1, V.ref a2, V.ref a3, V.ref a4, V.ref a5, V.ref a6, V.ref a7, V.ref a8, V.ref a9, V.ref a10, V.ref a11, V.ref a12, V.ref a13, V.ref a14, V.ref a15, V.ref a16, V.ref a17, V.ref a18, V.ref a19, V.ref a20, V.ref a21, V.ref a22, V.ref a23, V.ref a24]) k5
    replace P0 := P0.same y5
    replace t0 := t0.trans y5
    walk_at "rd"
    refine rd_1 (K := K) (u := u) (r := ⟨"NotAllowed", 29, 2, ["row"]⟩) rfl rfl rfl fun a25 G25 s25 e25 => ?_
    replace P0 := Errs.snoc s25 e25 P0
    replace t0 := t0.trans s25
    replace x5 := s25 _ _ x5
    walk_at "rd"
    refine rd_1 (K := K) (u := u) (r := ⟨"NotFull", 30, 2, ["column"]⟩) rfl rfl rfl fun a26 G26 s26 e26 => ?_
    replace P0 := Errs.snoc s26 e26 P0
    replace t0 := t0.trans s26
    replace x5 := s26 _ _ x5
    walk_at "rd"
    refine rd_0 (K := K) (u := u) (v := v) (r := ⟨"OtherPlan", 31, 2, []⟩) rfl rfl fun a27 G27 s27 e27 => ?_
    replace P0 := Errs.snoc s27 e27 P0
    replace t0 := t0.trans s27
    replace x5 := s27 _ _ x5
    walk_at "rd"
    refine rd_1 (K := K) (u := u) (r := ⟨"NotTurning", 32, 2, ["place"]⟩) rfl rfl rfl fun a28 G28 s28 e28 => ?_
    replace P0 := Errs.snoc s28 e28 P0
    replace t0 := t0.trans s28
    replace x5 := s28 _ _ x5
    walk_at "rd"
    refine rd_1 (K := K) (u := u) (r := ⟨"NameTaken", 33, 2, ["name"]⟩) rfl rfl rfl fun a29 G29 s29 e29 => ?_
    replace P0 := Errs.snoc s29 e29 P0
    replace t0 := t0.trans s29
    replace x5 := s29 _ _ x5
    walk_at "rd"
    refine ⟨Rd.small (by show 5 ≤ 100000; decide), fun l6 h6 => ?_⟩
    have o6 := upd_same (H := G29) (a := l6) (o := HO.lst [V.ref a25, V.ref a26, V.ref a27, V.ref a28, V.ref a29])
    have z6 := same_new (o := HO.lst [V.ref a25, V.ref a26, V.ref a27, V.ref a28, V.ref a29]) h6
    generalize upd G29 l6 (HO.lst [V.ref a25, V.ref a26, V.ref a27, V.ref a28, V.ref a29]) = N6 at o6 z6 ⊢
    replace P0 := P0.same z6
    replace t0 := t0.trans z6
    replace x5 := z6 _ _ x5
    walk_at "rd"
    refine ⟨_, _, _, _, rfl, rfl, x5, o6, Rd.small (by show 30 ≤ 100000; decide), fun c6 k6 => ?_⟩
    have x6 : upd N6 c6 (HO.lst [V.ref a0, V.ref a1, V.ref a2, V.ref a3, V.ref a4, V.ref a5, V.ref a6, V.ref a7, V.ref a8, V.ref a9, V.ref a10, V.ref a11, V.ref a12, V.ref a13, V.ref a14, V.ref a15, V.ref a16, V.ref a17, V.ref a18, V.ref a19, V.ref a20, V.ref a21, V.ref a22, V.ref a23, V.ref a24, V.ref a25, V.ref a26, V.ref a27, V.ref a28, V.ref a29]) c6 = some (HO.lst [V.ref a0, V.ref a1, V.ref a2, V.ref a3, V.ref a4, V.ref a5, V.ref a6, V.ref a7, V.ref a8, V.ref a9, V.ref a10, V.ref a11, V.ref a12, V.ref a13, V.ref a14, V.ref a15, V.ref a16, V.ref a17, V.ref a18, V.ref a19, V.ref a20, V.ref a21, V.ref a22, V.ref a23, V.ref a24, V.ref a25, V.ref a26, V.ref a27, V.ref a28, V.ref a29]) := upd_same
    have y6 := same_new (o := HO.lst [V.ref a0, V.ref a1, V.ref a2, V.ref a3, V.ref a4, V.ref a5, V.ref a6, V.ref a7, V.ref a8, V.ref a9, V.ref a10, V.ref a11, V.ref a12, V.ref a13, V.ref a14, V.ref a15, V.ref a16, V.ref a17, V.ref a18, V.ref a19, V.ref a20, V.ref a21, V.ref a22, V.ref a23, V.ref a24, V.ref a25, V.ref a26, V.ref a27, V.ref a28, V.ref a29]) k6
    replace P0 := P0.same y6
    replace t0 := t0.trans y6
    walk_at "rd"
    refine rd_0 (K := K) (u := u) (v := v) (r := ⟨"NothingToUndo", 34, 2, []⟩) rfl rfl fun a30 G30 s30 e30 => ?_
    replace P0 := Errs.snoc s30 e30 P0
    replace t0 := t0.trans s30
    replace x6 := s30 _ _ x6
    walk_at "rd"
    refine rd_2 (K := K) (r := ⟨"TooMany", 36, 3, ["what", "limit"]⟩) rfl rfl rfl rfl fun a31 G31 s31 e31 => ?_
    replace P0 := Errs.snoc s31 e31 P0
    replace t0 := t0.trans s31
    replace x6 := s31 _ _ x6
    walk_at "rd"
    refine ⟨Rd.small (by show 2 ≤ 100000; decide), fun l7 h7 => ?_⟩
    have o7 := upd_same (H := G31) (a := l7) (o := HO.lst [V.ref a30, V.ref a31])
    have z7 := same_new (o := HO.lst [V.ref a30, V.ref a31]) h7
    generalize upd G31 l7 (HO.lst [V.ref a30, V.ref a31]) = N7 at o7 z7 ⊢
    replace P0 := P0.same z7
    replace t0 := t0.trans z7
    replace x6 := z7 _ _ x6
    walk_at "rd"
    refine ⟨_, _, _, _, rfl, rfl, x6, o7, Rd.small (by show 32 ≤ 100000; decide), fun c7 k7 => ?_⟩
    have x7 : upd N7 c7 (HO.lst [V.ref a0, V.ref a1, V.ref a2, V.ref a3, V.ref a4, V.ref a5, V.ref a6, V.ref a7, V.ref a8, V.ref a9, V.ref a10, V.ref a11, V.ref a12, V.ref a13, V.ref a14, V.ref a15, V.ref a16, V.ref a17, V.ref a18, V.ref a19, V.ref a20, V.ref a21, V.ref a22, V.ref a23, V.ref a24, V.ref a25, V.ref a26, V.ref a27, V.ref a28, V.ref a29, V.ref a30, V.ref a31]) c7 = some (HO.lst [V.ref a0, V.ref a1, V.ref a2, V.ref a3, V.ref a4, V.ref a5, V.ref a6, V.ref a7, V.ref a8, V.ref a9, V.ref a10, V.ref a11, V.ref a12, V.ref a13, V.ref a14, V.ref a15, V.ref a16, V.ref a17, V.ref a18, V.ref a19, V.ref a20, V.ref a21, V.ref a22, V.ref a23, V.ref a24, V.ref a25, V.ref a26, V.ref a27, V.ref a28, V.ref a29, V.ref a30, V.ref a31]) := upd_same
    have y7 := same_new (o := HO.lst [V.ref a0, V.ref a1, V.ref a2, V.ref a3, V.ref a4, V.ref a5, V.ref a6, V.ref a7, V.ref a8, V.ref a9, V.ref a10, V.ref a11, V.ref a12, V.ref a13, V.ref a14, V.ref a15, V.ref a16, V.ref a17, V.ref a18, V.ref a19, V.ref a20, V.ref a21, V.ref a22, V.ref a23, V.ref a24, V.ref a25, V.ref a26, V.ref a27, V.ref a28, V.ref a29, V.ref a30, V.ref a31]) k7
    replace P0 := P0.same y7
    replace t0 := t0.trans y7
    simp only [List.nil_append, List.cons_append] at P0
    rw [← rows_lit] at P0
    exact q [a0, a1, a2, a3, a4, a5, a6, a7, a8, a9, a10, a11, a12, a13, a14, a15, a16, a17, a18, a19, a20, a21, a22, a23, a24, a25, a26, a27, a28, a29, a30, a31] _ _ t0 x7 P0
theorem sc_name : FnScope ["_law_first", "_law_more", "_law_found"] ["_law_first", "_law_more"] (defScope sByName) := ⟨rfl, rfl, rfl, by decide +kernel, rfl, by decide +kernel, by decide +kernel⟩
theorem ok_name (F : FnP K "_law_by_name" sByName f fd) (T : Cl K mg) : FnOk P w K mg base CX0 3 f fd ["_law_first", "_law_more"] (spBy K) := by
  have r0 : RowOk K mg ⟨"InvalidNumber", 2, 0, ["value"]⟩ := T.row _ (List.mem_of_getElem? (i := 0) rfl)
  obtain ⟨fd0, F0⟩ := T.f_InvalidNumber
  have I0 : FnOk P w K mg base CX0 1 _ fd0 ["self", "value"] _ := ini_InvalidNumber F0 r0.xc (r0.no "value" (by simp))
  have b0 : KB K fd0 ["self", "value"] ["value"] id id := FunDkb F0 (fun _ r => r) fun _ _ _ _ _ _ u ws hl => match ws, hl with | [_], _ => rfl
  have r1 : RowOk K mg ⟨"InvalidName", 3, 0, ["value"]⟩ := T.row _ (List.mem_of_getElem? (i := 1) rfl)
  obtain ⟨fd1, F1⟩ := T.f_InvalidName
  have I1 : FnOk P w K mg base CX0 1 _ fd1 ["self", "value"] _ := ini_InvalidName F1 r1.xc (r1.no "value" (by simp))
  have b1 : KB K fd1 ["self", "value"] ["value"] id id := FunDkb F1 (fun _ r => r) fun _ _ _ _ _ _ u ws hl => match ws, hl with | [_], _ => rfl
  have r2 : RowOk K mg ⟨"InvalidFormula", 4, 0, ["value"]⟩ := T.row _ (List.mem_of_getElem? (i := 2) rfl)
  obtain ⟨fd2, F2⟩ := T.f_InvalidFormula
  have I2 : FnOk P w K mg base CX0 1 _ fd2 ["self", "value"] _ := ini_InvalidFormula F2 r2.xc (r2.no "value" (by simp))
  have b2 : KB K fd2 ["self", "value"] ["value"] id id := FunDkb F2 (fun _ r => r) fun _ _ _ _ _ _ u ws hl => match ws, hl with | [_], _ => rfl
  have r3 : RowOk K mg ⟨"InvalidChosen", 5, 0, ["value"]⟩ := T.row _ (List.mem_of_getElem? (i := 3) rfl)
  obtain ⟨fd3, F3⟩ := T.f_InvalidChosen
  have I3 : FnOk P w K mg base CX0 1 _ fd3 ["self", "value"] _ := ini_InvalidChosen F3 r3.xc (r3.no "value" (by simp))
  have b3 : KB K fd3 ["self", "value"] ["value"] id id := FunDkb F3 (fun _ r => r) fun _ _ _ _ _ _ u ws hl => match ws, hl with | [_], _ => rfl
  have r4 : RowOk K mg ⟨"InvalidWhere", 6, 0, ["value"]⟩ := T.row _ (List.mem_of_getElem? (i := 4) rfl)
  obtain ⟨fd4, F4⟩ := T.f_InvalidWhere
  have I4 : FnOk P w K mg base CX0 1 _ fd4 ["self", "value"] _ := ini_InvalidWhere F4 r4.xc (r4.no "value" (by simp))
  have b4 : KB K fd4 ["self", "value"] ["value"] id id := FunDkb F4 (fun _ r => r) fun _ _ _ _ _ _ u ws hl => match ws, hl with | [_], _ => rfl
  have r5 : RowOk K mg ⟨"InvalidPosition", 7, 0, ["value"]⟩ := T.row _ (List.mem_of_getElem? (i := 5) rfl)
  obtain ⟨fd5, F5⟩ := T.f_InvalidPosition
  have I5 : FnOk P w K mg base CX0 1 _ fd5 ["self", "value"] _ := ini_InvalidPosition F5 r5.xc (r5.no "value" (by simp))
  have b5 : KB K fd5 ["self", "value"] ["value"] id id := FunDkb F5 (fun _ r => r) fun _ _ _ _ _ _ u ws hl => match ws, hl with | [_], _ => rfl
  have r6 : RowOk K mg ⟨"InvalidColumns", 8, 0, ["position"]⟩ := T.row _ (List.mem_of_getElem? (i := 6) rfl)
  obtain ⟨fd6, F6⟩ := T.f_InvalidColumns
  have I6 : FnOk P w K mg base CX0 1 _ fd6 ["self", "position"] _ := ini_InvalidColumns F6 r6.xc (r6.no "position" (by simp))
  have b6 : KB K fd6 ["self", "position"] ["position"] id id := FunDkb F6 (fun _ r => r) fun _ _ _ _ _ _ u ws hl => match ws, hl with | [_], _ => rfl
  have r7 : RowOk K mg ⟨"InvalidTop", 9, 0, ["column"]⟩ := T.row _ (List.mem_of_getElem? (i := 7) rfl)
  obtain ⟨fd7, F7⟩ := T.f_InvalidTop
  have I7 : FnOk P w K mg base CX0 1 _ fd7 ["self", "column"] _ := ini_InvalidTop F7 r7.xc (r7.no "column" (by simp))
  have b7 : KB K fd7 ["self", "column"] ["column"] id id := FunDkb F7 (fun _ r => r) fun _ _ _ _ _ _ u ws hl => match ws, hl with | [_], _ => rfl
  have r8 : RowOk K mg ⟨"InvalidKinds", 10, 0, ["kind", "column"]⟩ := T.row _ (List.mem_of_getElem? (i := 8) rfl)
  obtain ⟨fd8, F8⟩ := T.f_InvalidKinds
  have I8 : FnOk P w K mg base CX0 1 _ fd8 ["self", "kind", "column"] _ := ini_InvalidKinds F8 r8.xc (r8.no "kind" (by simp)) (r8.no "column" (by simp))
  have b8 : KB K fd8 ["self", "kind", "column"] ["column", "kind"] List.reverse List.reverse := FunDkb F8 (fun _ r => vals_rev r) fun _ _ _ _ _ _ u ws hl => match ws, hl with | [_, _], _ => rfl
  have r9 : RowOk K mg ⟨"InvalidPlan", 11, 0, ["place"]⟩ := T.row _ (List.mem_of_getElem? (i := 9) rfl)
  obtain ⟨fd9, F9⟩ := T.f_InvalidPlan
  have I9 : FnOk P w K mg base CX0 1 _ fd9 ["self", "place"] _ := ini_InvalidPlan F9 r9.xc (r9.no "place" (by simp))
  have b9 : KB K fd9 ["self", "place"] ["place"] id id := FunDkb F9 (fun _ r => r) fun _ _ _ _ _ _ u ws hl => match ws, hl with | [_], _ => rfl
  have r10 : RowOk K mg ⟨"InvalidWord", 12, 0, ["position"]⟩ := T.row _ (List.mem_of_getElem? (i := 10) rfl)
  obtain ⟨fd10, F10⟩ := T.f_InvalidWord
  have I10 : FnOk P w K mg base CX0 1 _ fd10 ["self", "position"] _ := ini_InvalidWord F10 r10.xc (r10.no "position" (by simp))
  have b10 : KB K fd10 ["self", "position"] ["position"] id id := FunDkb F10 (fun _ r => r) fun _ _ _ _ _ _ u ws hl => match ws, hl with | [_], _ => rfl
  have r11 : RowOk K mg ⟨"InvalidFill", 13, 0, ["part", "position"]⟩ := T.row _ (List.mem_of_getElem? (i := 11) rfl)
  obtain ⟨fd11, F11⟩ := T.f_InvalidFill
  have I11 : FnOk P w K mg base CX0 1 _ fd11 ["self", "part", "position"] _ := ini_InvalidFill F11 r11.xc (r11.no "part" (by simp)) (r11.no "position" (by simp))
  have b11 : KB K fd11 ["self", "part", "position"] ["position", "part"] List.reverse List.reverse := FunDkb F11 (fun _ r => vals_rev r) fun _ _ _ _ _ _ u ws hl => match ws, hl with | [_, _], _ => rfl
  have r12 : RowOk K mg ⟨"InvalidFoot", 14, 0, ["column"]⟩ := T.row _ (List.mem_of_getElem? (i := 12) rfl)
  obtain ⟨fd12, F12⟩ := T.f_InvalidFoot
  have I12 : FnOk P w K mg base CX0 1 _ fd12 ["self", "column"] _ := ini_InvalidFoot F12 r12.xc (r12.no "column" (by simp))
  have b12 : KB K fd12 ["self", "column"] ["column"] id id := FunDkb F12 (fun _ r => r) fun _ _ _ _ _ _ u ws hl => match ws, hl with | [_], _ => rfl
  have r13 : RowOk K mg ⟨"InvalidRow", 15, 0, ["value"]⟩ := T.row _ (List.mem_of_getElem? (i := 13) rfl)
  obtain ⟨fd13, F13⟩ := T.f_InvalidRow
  have I13 : FnOk P w K mg base CX0 1 _ fd13 ["self", "value"] _ := ini_InvalidRow F13 r13.xc (r13.no "value" (by simp))
  have b13 : KB K fd13 ["self", "value"] ["value"] id id := FunDkb F13 (fun _ r => r) fun _ _ _ _ _ _ u ws hl => match ws, hl with | [_], _ => rfl
  have r14 : RowOk K mg ⟨"InvalidCount", 16, 0, ["value"]⟩ := T.row _ (List.mem_of_getElem? (i := 14) rfl)
  obtain ⟨fd14, F14⟩ := T.f_InvalidCount
  have I14 : FnOk P w K mg base CX0 1 _ fd14 ["self", "value"] _ := ini_InvalidCount F14 r14.xc (r14.no "value" (by simp))
  have b14 : KB K fd14 ["self", "value"] ["value"] id id := FunDkb F14 (fun _ r => r) fun _ _ _ _ _ _ u ws hl => match ws, hl with | [_], _ => rfl
  have r15 : RowOk K mg ⟨"InvalidAbove", 17, 0, ["value"]⟩ := T.row _ (List.mem_of_getElem? (i := 15) rfl)
  obtain ⟨fd15, F15⟩ := T.f_InvalidAbove
  have I15 : FnOk P w K mg base CX0 1 _ fd15 ["self", "value"] _ := ini_InvalidAbove F15 r15.xc (r15.no "value" (by simp))
  have b15 : KB K fd15 ["self", "value"] ["value"] id id := FunDkb F15 (fun _ r => r) fun _ _ _ _ _ _ u ws hl => match ws, hl with | [_], _ => rfl
  have r16 : RowOk K mg ⟨"InvalidTable", 18, 0, ["value"]⟩ := T.row _ (List.mem_of_getElem? (i := 16) rfl)
  obtain ⟨fd16, F16⟩ := T.f_InvalidTable
  have I16 : FnOk P w K mg base CX0 1 _ fd16 ["self", "value"] _ := ini_InvalidTable F16 r16.xc (r16.no "value" (by simp))
  have b16 : KB K fd16 ["self", "value"] ["value"] id id := FunDkb F16 (fun _ r => r) fun _ _ _ _ _ _ u ws hl => match ws, hl with | [_], _ => rfl
  have r17 : RowOk K mg ⟨"InvalidStates", 19, 0, ["position"]⟩ := T.row _ (List.mem_of_getElem? (i := 17) rfl)
  obtain ⟨fd17, F17⟩ := T.f_InvalidStates
  have I17 : FnOk P w K mg base CX0 1 _ fd17 ["self", "position"] _ := ini_InvalidStates F17 r17.xc (r17.no "position" (by simp))
  have b17 : KB K fd17 ["self", "position"] ["position"] id id := FunDkb F17 (fun _ r => r) fun _ _ _ _ _ _ u ws hl => match ws, hl with | [_], _ => rfl
  have r18 : RowOk K mg ⟨"InvalidText", 20, 0, ["line"]⟩ := T.row _ (List.mem_of_getElem? (i := 18) rfl)
  obtain ⟨fd18, F18⟩ := T.f_InvalidText
  have I18 : FnOk P w K mg base CX0 1 _ fd18 ["self", "line"] _ := ini_InvalidText F18 r18.xc (r18.no "line" (by simp))
  have b18 : KB K fd18 ["self", "line"] ["line"] id id := FunDkb F18 (fun _ r => r) fun _ _ _ _ _ _ u ws hl => match ws, hl with | [_], _ => rfl
  have r19 : RowOk K mg ⟨"InvalidClaim", 21, 0, ["value"]⟩ := T.row _ (List.mem_of_getElem? (i := 19) rfl)
  obtain ⟨fd19, F19⟩ := T.f_InvalidClaim
  have I19 : FnOk P w K mg base CX0 1 _ fd19 ["self", "value"] _ := ini_InvalidClaim F19 r19.xc (r19.no "value" (by simp))
  have b19 : KB K fd19 ["self", "value"] ["value"] id id := FunDkb F19 (fun _ r => r) fun _ _ _ _ _ _ u ws hl => match ws, hl with | [_], _ => rfl
  have r20 : RowOk K mg ⟨"InvalidCommand", 22, 0, ["value"]⟩ := T.row _ (List.mem_of_getElem? (i := 20) rfl)
  obtain ⟨fd20, F20⟩ := T.f_InvalidCommand
  have I20 : FnOk P w K mg base CX0 1 _ fd20 ["self", "value"] _ := ini_InvalidCommand F20 r20.xc (r20.no "value" (by simp))
  have b20 : KB K fd20 ["self", "value"] ["value"] id id := FunDkb F20 (fun _ r => r) fun _ _ _ _ _ _ u ws hl => match ws, hl with | [_], _ => rfl
  have r21 : RowOk K mg ⟨"UnknownColumn", 24, 1, ["value"]⟩ := T.row _ (List.mem_of_getElem? (i := 21) rfl)
  obtain ⟨fd21, F21⟩ := T.f_UnknownColumn
  have I21 : FnOk P w K mg base CX0 1 _ fd21 ["self", "value"] _ := ini_UnknownColumn F21 r21.xc (r21.no "value" (by simp))
  have b21 : KB K fd21 ["self", "value"] ["value"] id id := FunDkb F21 (fun _ r => r) fun _ _ _ _ _ _ u ws hl => match ws, hl with | [_], _ => rfl
  have r22 : RowOk K mg ⟨"UnknownKind", 25, 1, ["value"]⟩ := T.row _ (List.mem_of_getElem? (i := 22) rfl)
  obtain ⟨fd22, F22⟩ := T.f_UnknownKind
  have I22 : FnOk P w K mg base CX0 1 _ fd22 ["self", "value"] _ := ini_UnknownKind F22 r22.xc (r22.no "value" (by simp))
  have b22 : KB K fd22 ["self", "value"] ["value"] id id := FunDkb F22 (fun _ r => r) fun _ _ _ _ _ _ u ws hl => match ws, hl with | [_], _ => rfl
  have r23 : RowOk K mg ⟨"UnknownPlace", 26, 1, ["value"]⟩ := T.row _ (List.mem_of_getElem? (i := 23) rfl)
  obtain ⟨fd23, F23⟩ := T.f_UnknownPlace
  have I23 : FnOk P w K mg base CX0 1 _ fd23 ["self", "value"] _ := ini_UnknownPlace F23 r23.xc (r23.no "value" (by simp))
  have b23 : KB K fd23 ["self", "value"] ["value"] id id := FunDkb F23 (fun _ r => r) fun _ _ _ _ _ _ u ws hl => match ws, hl with | [_], _ => rfl
  have r24 : RowOk K mg ⟨"UnknownName", 27, 1, ["value"]⟩ := T.row _ (List.mem_of_getElem? (i := 24) rfl)
  obtain ⟨fd24, F24⟩ := T.f_UnknownName
  have I24 : FnOk P w K mg base CX0 1 _ fd24 ["self", "value"] _ := ini_UnknownName F24 r24.xc (r24.no "value" (by simp))
  have b24 : KB K fd24 ["self", "value"] ["value"] id id := FunDkb F24 (fun _ r => r) fun _ _ _ _ _ _ u ws hl => match ws, hl with | [_], _ => rfl
  have r25 : RowOk K mg ⟨"NotAllowed", 29, 2, ["row"]⟩ := T.row _ (List.mem_of_getElem? (i := 25) rfl)
  obtain ⟨fd25, F25⟩ := T.f_NotAllowed
  have I25 : FnOk P w K mg base CX0 1 _ fd25 ["self", "row"] _ := ini_NotAllowed F25 r25.xc (r25.no "row" (by simp))
  have b25 : KB K fd25 ["self", "row"] ["row"] id id := FunDkb F25 (fun _ r => r) fun _ _ _ _ _ _ u ws hl => match ws, hl with | [_], _ => rfl
  have r26 : RowOk K mg ⟨"NotFull", 30, 2, ["column"]⟩ := T.row _ (List.mem_of_getElem? (i := 26) rfl)
  obtain ⟨fd26, F26⟩ := T.f_NotFull
  have I26 : FnOk P w K mg base CX0 1 _ fd26 ["self", "column"] _ := ini_NotFull F26 r26.xc (r26.no "column" (by simp))
  have b26 : KB K fd26 ["self", "column"] ["column"] id id := FunDkb F26 (fun _ r => r) fun _ _ _ _ _ _ u ws hl => match ws, hl with | [_], _ => rfl
  have r27 : RowOk K mg ⟨"OtherPlan", 31, 2, []⟩ := T.row _ (List.mem_of_getElem? (i := 27) rfl)
  have r28 : RowOk K mg ⟨"NotTurning", 32, 2, ["place"]⟩ := T.row _ (List.mem_of_getElem? (i := 28) rfl)
  obtain ⟨fd28, F28⟩ := T.f_NotTurning
  have I28 : FnOk P w K mg base CX0 1 _ fd28 ["self", "place"] _ := ini_NotTurning F28 r28.xc (r28.no "place" (by simp))
  have b28 : KB K fd28 ["self", "place"] ["place"] id id := FunDkb F28 (fun _ r => r) fun _ _ _ _ _ _ u ws hl => match ws, hl with | [_], _ => rfl
  have r29 : RowOk K mg ⟨"NameTaken", 33, 2, ["name"]⟩ := T.row _ (List.mem_of_getElem? (i := 29) rfl)
  obtain ⟨fd29, F29⟩ := T.f_NameTaken
  have I29 : FnOk P w K mg base CX0 1 _ fd29 ["self", "name"] _ := ini_NameTaken F29 r29.xc (r29.no "name" (by simp))
  have b29 : KB K fd29 ["self", "name"] ["name"] id id := FunDkb F29 (fun _ r => r) fun _ _ _ _ _ _ u ws hl => match ws, hl with | [_], _ => rfl
  have r30 : RowOk K mg ⟨"NothingToUndo", 34, 2, []⟩ := T.row _ (List.mem_of_getElem? (i := 30) rfl)
  have r31 : RowOk K mg ⟨"TooMany", 36, 3, ["what", "limit"]⟩ := T.row _ (List.mem_of_getElem? (i := 31) rfl)
  obtain ⟨fd31, F31⟩ := T.f_TooMany
  have I31 : FnOk P w K mg base CX0 1 _ fd31 ["self", "what", "limit"] _ := ini_TooMany F31 r31.xc (r31.no "what" (by simp)) (r31.no "limit" (by simp))
  have b31 : KB K fd31 ["self", "what", "limit"] ["limit", "what"] List.reverse List.reverse := FunDkb F31 (fun _ r => vals_rev r) fun _ _ _ _ _ _ u ws hl => match ws, hl with | [_, _], _ => rfl
  refine F.ok sc_name (fun vs H Q E h => ?_) (fun cdv A outer s H vs Q E hr h => ?_)
  · obtain ⟨v, u, rfl, _⟩ := h
    rfl
  · obtain ⟨v, u, rfl, q⟩ := h
    have hr2 := hr
    refine ⟨_, PSs.nox (pss_cons (ps_set (i := 2) sc_name.nd rfl (Or.inl rfl) (pe_lst (pa_cons (pe_excK r0.xc (r0.ini (by simp)).1 (r0.ini (by simp)).2 I0 hr2 b0 pass0 rfl r0.g (pk_cons (pv 0) pk_nil)) (pa_cons (pe_excK r1.xc (r1.ini (by simp)).1 (r1.ini (by simp)).2 I1 hr2 b1 pass0 rfl r1.g (pk_cons (pv 0) pk_nil)) (pa_cons (pe_excK r2.xc (r2.ini (by simp)).1 (r2.ini (by simp)).2 I2 hr2 b2 pass0 rfl r2.g (pk_cons (pv 0) pk_nil)) pa_nil)))))
      (pss_cons (ps_set (i := 2) sc_name.nd rfl (Or.inl rfl) (pe_op op_cat (pv 2) (pe_lst (pa_cons (pe_excK r3.xc (r3.ini (by simp)).1 (r3.ini (by simp)).2 I3 hr2 b3 pass0 rfl r3.g (pk_cons (pv 0) pk_nil)) (pa_cons (pe_excK r4.xc (r4.ini (by simp)).1 (r4.ini (by simp)).2 I4 hr2 b4 pass0 rfl r4.g (pk_cons (pv 0) pk_nil)) (pa_cons (pe_excK r5.xc (r5.ini (by simp)).1 (r5.ini (by simp)).2 I5 hr2 b5 pass0 rfl r5.g (pk_cons (pv 0) pk_nil)) pa_nil))))))
      (pss_cons (ps_set (i := 2) sc_name.nd rfl (Or.inl rfl) (pe_op op_cat (pv 2) (pe_lst (pa_cons (pe_excK r6.xc (r6.ini (by simp)).1 (r6.ini (by simp)).2 I6 hr2 b6 pass0 rfl r6.g (pk_cons (pv 0) pk_nil)) (pa_cons (pe_excK r7.xc (r7.ini (by simp)).1 (r7.ini (by simp)).2 I7 hr2 b7 pass0 rfl r7.g (pk_cons (pv 0) pk_nil)) (pa_cons (pe_excK r8.xc (r8.ini (by simp)).1 (r8.ini (by simp)).2 I8 hr2 b8 pass0 rfl r8.g (pk_cons (pv 1) (pk_cons (pv 0) pk_nil))) pa_nil))))))
      (pss_cons (ps_set (i := 2) sc_name.nd rfl (Or.inl rfl) (pe_op op_cat (pv 2) (pe_lst (pa_cons (pe_excK r9.xc (r9.ini (by simp)).1 (r9.ini (by simp)).2 I9 hr2 b9 pass0 rfl r9.g (pk_cons (pv 0) pk_nil)) (pa_cons (pe_excK r10.xc (r10.ini (by simp)).1 (r10.ini (by simp)).2 I10 hr2 b10 pass0 rfl r10.g (pk_cons (pv 0) pk_nil)) (pa_cons (pe_excK r11.xc (r11.ini (by simp)).1 (r11.ini (by simp)).2 I11 hr2 b11 pass0 rfl r11.g (pk_cons (pv 1) (pk_cons (pv 0) pk_nil))) pa_nil))))))
      (pss_cons (ps_set (i := 2) sc_name.nd rfl (Or.inl rfl) (pe_op op_cat (pv 2) (pe_lst (pa_cons (pe_excK r12.xc (r12.ini (by simp)).1 (r12.ini (by simp)).2 I12 hr2 b12 pass0 rfl r12.g (pk_cons (pv 0) pk_nil)) (pa_cons (pe_excK r13.xc (r13.ini (by simp)).1 (r13.ini (by simp)).2 I13 hr2 b13 pass0 rfl r13.g (pk_cons (pv 0) pk_nil)) (pa_cons (pe_excK r14.xc (r14.ini (by simp)).1 (r14.ini (by simp)).2 I14 hr2 b14 pass0 rfl r14.g (pk_cons (pv 0) pk_nil)) pa_nil))))))
      (pss_cons (ps_set (i := 2) sc_name.nd rfl (Or.inl rfl) (pe_op op_cat (pv 2) (pe_lst (pa_cons (pe_excK r15.xc (r15.ini (by simp)).1 (r15.ini (by simp)).2 I15 hr2 b15 pass0 rfl r15.g (pk_cons (pv 0) pk_nil)) (pa_cons (pe_excK r16.xc (r16.ini (by simp)).1 (r16.ini (by simp)).2 I16 hr2 b16 pass0 rfl r16.g (pk_cons (pv 0) pk_nil)) (pa_cons (pe_excK r17.xc (r17.ini (by simp)).1 (r17.ini (by simp)).2 I17 hr2 b17 pass0 rfl r17.g (pk_cons (pv 0) pk_nil)) pa_nil))))))
      (pss_cons (ps_set (i := 2) sc_name.nd rfl (Or.inl rfl) (pe_op op_cat (pv 2) (pe_lst (pa_cons (pe_excK r18.xc (r18.ini (by simp)).1 (r18.ini (by simp)).2 I18 hr2 b18 pass0 rfl r18.g (pk_cons (pv 0) pk_nil)) (pa_cons (pe_excK r19.xc (r19.ini (by simp)).1 (r19.ini (by simp)).2 I19 hr2 b19 pass0 rfl r19.g (pk_cons (pv 0) pk_nil)) (pa_cons (pe_excK r20.xc (r20.ini (by simp)).1 (r20.ini (by simp)).2 I20 hr2 b20 pass0 rfl r20.g (pk_cons (pv 0) pk_nil)) pa_nil))))))
      (pss_cons (ps_set (i := 2) sc_name.nd rfl (Or.inl rfl) (pe_op op_cat (pv 2) (pe_lst (pa_cons (pe_excK r21.xc (r21.ini (by simp)).1 (r21.ini (by simp)).2 I21 hr2 b21 pass0 rfl r21.g (pk_cons (pv 0) pk_nil)) (pa_cons (pe_excK r22.xc (r22.ini (by simp)).1 (r22.ini (by simp)).2 I22 hr2 b22 pass0 rfl r22.g (pk_cons (pv 0) pk_nil)) (pa_cons (pe_excK r23.xc (r23.ini (by simp)).1 (r23.ini (by simp)).2 I23 hr2 b23 pass0 rfl r23.g (pk_cons (pv 0) pk_nil)) pa_nil))))))
      (pss_cons (ps_set (i := 2) sc_name.nd rfl (Or.inl rfl) (pe_op op_cat (pv 2) (pe_lst (pa_cons (pe_excK r24.xc (r24.ini (by simp)).1 (r24.ini (by simp)).2 I24 hr2 b24 pass0 rfl r24.g (pk_cons (pv 0) pk_nil)) (pa_cons (pe_excK r25.xc (r25.ini (by simp)).1 (r25.ini (by simp)).2 I25 hr2 b25 pass0 rfl r25.g (pk_cons (pv 0) pk_nil)) (pa_cons (pe_excK r26.xc (r26.ini (by simp)).1 (r26.ini (by simp)).2 I26 hr2 b26 pass0 rfl r26.g (pk_cons (pv 0) pk_nil)) (pa_cons (pe_exc0 r27.xc PySem.F.excBase_RuntimeError (r27.non rfl) rfl r27.g) pa_nil)))))))
      (pss_cons (ps_set (i := 2) sc_name.nd rfl (Or.inl rfl) (pe_op op_cat (pv 2) (pe_lst (pa_cons (pe_excK r28.xc (r28.ini (by simp)).1 (r28.ini (by simp)).2 I28 hr2 b28 pass0 rfl r28.g (pk_cons (pv 0) pk_nil)) (pa_cons (pe_excK r29.xc (r29.ini (by simp)).1 (r29.ini (by simp)).2 I29 hr2 b29 pass0 rfl r29.g (pk_cons (pv 0) pk_nil)) (pa_cons (pe_exc0 r30.xc PySem.F.excBase_RuntimeError (r30.non rfl) rfl r30.g) pa_nil))))))
      (pss_one (ps_ret (pe_op op_cat (pv 2) (pe_lst (pa_cons (pe_excK r31.xc (r31.ini (by simp)).1 (r31.ini (by simp)).2 I31 hr2 b31 pass0 rfl r31.g (pk_cons (pv 1) (pk_cons (pv 0) pk_nil))) pa_nil))))))))))))))), ?_⟩
    have P0 : Errs K H v u [] [] := .nil
    have t0 : Same H H := Same.refl H
    walk_at "rd"
    refine rd_k1 (K := K) (u := u) (r := ⟨"InvalidNumber", 2, 0, ["value"]⟩) rfl rfl rfl fun a0 G0 s0 e0 => ?_
    replace P0 := Errs.snoc s0 e0 P0
    replace t0 := t0.trans s0
    walk_at "rd"
    refine rd_k1 (K := K) (u := u) (r := ⟨"InvalidName", 3, 0, ["value"]⟩) rfl rfl rfl fun a1 G1 s1 e1 => ?_
    replace P0 := Errs.snoc s1 e1 P0
    replace t0 := t0.trans s1
    walk_at "rd"
    refine rd_k1 (K := K) (u := u) (r := ⟨"InvalidFormula", 4, 0, ["value"]⟩) rfl rfl rfl fun a2 G2 s2 e2 => ?_
    replace P0 := Errs.snoc s2 e2 P0
    replace t0 := t0.trans s2
    walk_at "rd"
    refine ⟨Rd.small (by show 3 ≤ 100000; decide), fun l0 h0 => ?_⟩
    have o0 := upd_same (H := G2) (a := l0) (o := HO.lst [V.ref a0, V.ref a1, V.ref a2])
    have z0 := same_new (o := HO.lst [V.ref a0, V.ref a1, V.ref a2]) h0
    generalize upd G2 l0 (HO.lst [V.ref a0, V.ref a1, V.ref a2]) = N0 at o0 z0 ⊢
    replace P0 := P0.same z0
    replace t0 := t0.trans z0
    walk_at "rd"
    refine rd_k1 (K := K) (u := u) (r := ⟨"InvalidChosen", 5, 0, ["value"]⟩) rfl rfl rfl fun a3 G3 s3 e3 => ?_
    replace P0 := Errs.snoc s3 e3 P0
    replace t0 := t0.trans s3
    replace o0 := s3 _ _ o0
    walk_at "rd"
    refine rd_k1 (K := K) (u := u) (r := ⟨"InvalidWhere", 6, 0, ["value"]⟩) rfl rfl rfl fun a4 G4 s4 e4 => ?_
    replace P0 := Errs.snoc s4 e4 P0
    replace t0 := t0.trans s4
    replace o0 := s4 _ _ o0
    walk_at "rd"
    refine rd_k1 (K := K) (u := u) (r := ⟨"InvalidPosition", 7, 0, ["value"]⟩) rfl rfl rfl fun a5 G5 s5 e5 => ?_
    replace P0 := Errs.snoc s5 e5 P0
    replace t0 := t0.trans s5
    replace o0 := s5 _ _ o0
    walk_at "rd"
    refine ⟨Rd.small (by show 3 ≤ 100000; decide), fun l1 h1 => ?_⟩
    have o1 := upd_same (H := G5) (a := l1) (o := HO.lst [V.ref a3, V.ref a4, V.ref a5])
    have z1 := same_new (o := HO.lst [V.ref a3, V.ref a4, V.ref a5]) h1
    generalize upd G5 l1 (HO.lst [V.ref a3, V.ref a4, V.ref a5]) = N1 at o1 z1 ⊢
    replace P0 := P0.same z1
    replace t0 := t0.trans z1
    replace o0 := z1 _ _ o0
    walk_at "rd"
    refine ⟨_, _, _, _, rfl, rfl, o0, o1, Rd.small (by show 6 ≤ 100000; decide), fun c1 k1 => ?_⟩
    have x1 : upd N1 c1 (HO.lst [V.ref a0, V.ref a1, V.ref a2, V.ref a3, V.ref a4, V.ref a5]) c1 = some (HO.lst [V.ref a0, V.ref a1, V.ref a2, V.ref a3, V.ref a4, V.ref a5]) := upd_same
    have y1 := same_new (o := HO.lst [V.ref a0, V.ref a1, V.ref a2, V.ref a3, V.ref a4, V.ref a5]) k1
    replace P0 := P0.same y1
    replace t0 := t0.trans y1
    walk_at "rd"
    refine rd_k1 (K := K) (u := u) (r := ⟨"InvalidColumns", 8, 0, ["position"]⟩) rfl rfl rfl fun a6 G6 s6 e6 => ?_
    replace P0 := Errs.snoc s6 e6 P0
    replace t0 := t0.trans s6
    replace x1 := s6 _ _ x1
    walk_at "rd"
    refine rd_k1 (K := K) (u := u) (r := ⟨"InvalidTop", 9, 0, ["column"]⟩) rfl rfl rfl fun a7 G7 s7 e7 => ?_
    replace P0 := Errs.snoc s7 e7 P0
    replace t0 := t0.trans s7
    replace x1 := s7 _ _ x1
    walk_at "rd"
    refine rd_k2 (K := K) (r := ⟨"InvalidKinds", 10, 0, ["kind", "column"]⟩) rfl rfl rfl rfl fun a8 G8 s8 e8 => ?_
    replace P0 := Errs.snoc s8 e8 P0
    replace t0 := t0.trans s8
    replace x1 := s8 _ _ x1
    walk_at "rd"
    refine ⟨Rd.small (by show 3 ≤ 100000; decide), fun l2 h2 => ?_⟩
    have o2 := upd_same (H := G8) (a := l2) (o := HO.lst [V.ref a6, V.ref a7, V.ref a8])
    have z2 := same_new (o := HO.lst [V.ref a6, V.ref a7, V.ref a8]) h2
    generalize upd G8 l2 (HO.lst [V.ref a6, V.ref a7, V.ref a8]) = N2 at o2 z2 ⊢
    replace P0 := P0.same z2
    replace t0 := t0.trans z2
    replace x1 := z2 _ _ x1
    walk_at "rd"
    refine ⟨_, _, _, _, rfl, rfl, x1, o2, Rd.small (by show 9 ≤ 100000; decide), fun c2 k2 => ?_⟩
    have x2 : upd N2 c2 (HO.lst [V.ref a0, V.ref a1, V.ref a2, V.ref a3, V.ref a4, V.ref a5, V.ref a6, V.ref a7, V.ref a8]) c2 = some (HO.lst [V.ref a0, V.ref a1, V.ref a2, V.ref a3, V.ref a4, V.ref a5, V.ref a6, V.ref a7, V.ref a8]) := upd_same
    have y2 := same_new (o := HO.lst [V.ref a0, V.ref a1, V.ref a2, V.ref a3, V.ref a4, V.ref a5, V.ref a6, V.ref a7, V.ref a8]) k2
    replace P0 := P0.same y2
    replace t0 := t0.trans y2
    walk_at "rd"
    refine rd_k1 (K := K) (u := u) (r := ⟨"InvalidPlan", 11, 0, ["place"]⟩) rfl rfl rfl fun a9 G9 s9 e9 => ?_
    replace P0 := Errs.snoc s9 e9 P0
    replace t0 := t0.trans s9
    replace x2 := s9 _ _ x2
    walk_at "rd"
    refine rd_k1 (K := K) (u := u) (r := ⟨"InvalidWord", 12, 0, ["position"]⟩) rfl rfl rfl fun a10 G10 s10 e10 => ?_
    replace P0 := Errs.snoc s10 e10 P0
    replace t0 := t0.trans s10
    replace x2 := s10 _ _ x2
    walk_at "rd"
    refine rd_k2 (K := K) (r := ⟨"InvalidFill", 13, 0, ["part", "position"]⟩) rfl rfl rfl rfl fun a11 G11 s11 e11 => ?_
    replace P0 := Errs.snoc s11 e11 P0
    replace t0 := t0.trans s11
    replace x2 := s11 _ _ x2
    walk_at "rd"
    refine ⟨Rd.small (by show 3 ≤ 100000; decide), fun l3 h3 => ?_⟩
    have o3 := upd_same (H := G11) (a := l3) (o := HO.lst [V.ref a9, V.ref a10, V.ref a11])
    have z3 := same_new (o := HO.lst [V.ref a9, V.ref a10, V.ref a11]) h3
    generalize upd G11 l3 (HO.lst [V.ref a9, V.ref a10, V.ref a11]) = N3 at o3 z3 ⊢
    replace P0 := P0.same z3
    replace t0 := t0.trans z3
    replace x2 := z3 _ _ x2
    walk_at "rd"
    refine ⟨_, _, _, _, rfl, rfl, x2, o3, Rd.small (by show 12 ≤ 100000; decide), fun c3 k3 => ?_⟩
    have x3 : upd N3 c3 (HO.lst [V.ref a0, V.ref a1, V.ref a2, V.ref a3, V.ref a4, V.ref a5, V.ref a6, V.ref a7, V.ref a8, V.ref a9, V.ref a10, V.ref a11]) c3 = some (HO.lst [V.ref a0, V.ref a1, V.ref a2, V.ref a3, V.ref a4, V.ref a5, V.ref a6, V.ref a7, V.ref a8, V.ref a9, V.ref a10, V.ref a11]) := upd_same
    have y3 := same_new (o := HO.lst [V.ref a0, V.ref a1, V.ref a2, V.ref a3, V.ref a4, V.ref a5, V.ref a6, V.ref a7, V.ref a8, V.ref a9, V.ref a10, V.ref a11]) k3
    replace P0 := P0.same y3
    replace t0 := t0.trans y3
    walk_at "rd"
    refine rd_k1 (K := K) (u := u) (r := ⟨"InvalidFoot", 14, 0, ["column"]⟩) rfl rfl rfl fun a12 G12 s12 e12 => ?_
    replace P0 := Errs.snoc s12 e12 P0
    replace t0 := t0.trans s12
    replace x3 := s12 _ _ x3
    walk_at "rd"
    refine rd_k1 (K := K) (u := u) (r := ⟨"InvalidRow", 15, 0, ["value"]⟩) rfl rfl rfl fun a13 G13 s13 e13 => ?_
    replace P0 := Errs.snoc s13 e13 P0
    replace t0 := t0.trans s13
    replace x3 := s13 _ _ x3
    walk_at "rd"
    refine rd_k1 (K := K) (u := u) (r := ⟨"InvalidCount", 16, 0, ["value"]⟩) rfl rfl rfl fun a14 G14 s14 e14 => ?_
    replace P0 := Errs.snoc s14 e14 P0
    replace t0 := t0.trans s14
    replace x3 := s14 _ _ x3
    walk_at "rd"
    refine ⟨Rd.small (by show 3 ≤ 100000; decide), fun l4 h4 => ?_⟩
    have o4 := upd_same (H := G14) (a := l4) (o := HO.lst [V.ref a12, V.ref a13, V.ref a14])
    have z4 := same_new (o := HO.lst [V.ref a12, V.ref a13, V.ref a14]) h4
    generalize upd G14 l4 (HO.lst [V.ref a12, V.ref a13, V.ref a14]) = N4 at o4 z4 ⊢
    replace P0 := P0.same z4
    replace t0 := t0.trans z4
    replace x3 := z4 _ _ x3
    walk_at "rd"
    refine ⟨_, _, _, _, rfl, rfl, x3, o4, Rd.small (by show 15 ≤ 100000; decide), fun c4 k4 => ?_⟩
    have x4 : upd N4 c4 (HO.lst [V.ref a0, V.ref a1, V.ref a2, V.ref a3, V.ref a4, V.ref a5, V.ref a6, V.ref a7, V.ref a8, V.ref a9, V.ref a10, V.ref a11, V.ref a12, V.ref a13, V.ref a14]) c4 = some (HO.lst [V.ref a0, V.ref a1, V.ref a2, V.ref a3, V.ref a4, V.ref a5, V.ref a6, V.ref a7, V.ref a8, V.ref a9, V.ref a10, V.ref a11, V.ref a12, V.ref a13, V.ref a14]) := upd_same
    have y4 := same_new (o := HO.lst [V.ref a0, V.ref a1, V.ref a2, V.ref a3, V.ref a4, V.ref a5, V.ref a6, V.ref a7, V.ref a8, V.ref a9, V.ref a10, V.ref a11, V.ref a12, V.ref a13, V.ref a14]) k4
    replace P0 := P0.same y4
    replace t0 := t0.trans y4
    walk_at "rd"
    refine rd_k1 (K := K) (u := u) (r := ⟨"InvalidAbove", 17, 0, ["value"]⟩) rfl rfl rfl fun a15 G15 s15 e15 => ?_
    replace P0 := Errs.snoc s15 e15 P0
    replace t0 := t0.trans s15
    replace x4 := s15 _ _ x4
    walk_at "rd"
    refine rd_k1 (K := K) (u := u) (r := ⟨"InvalidTable", 18, 0, ["value"]⟩) rfl rfl rfl fun a16 G16 s16 e16 => ?_
    replace P0 := Errs.snoc s16 e16 P0
    replace t0 := t0.trans s16
    replace x4 := s16 _ _ x4
    walk_at "rd"
    refine rd_k1 (K := K) (u := u) (r := ⟨"InvalidStates", 19, 0, ["position"]⟩) rfl rfl rfl fun a17 G17 s17 e17 => ?_
    replace P0 := Errs.snoc s17 e17 P0
    replace t0 := t0.trans s17
    replace x4 := s17 _ _ x4
    walk_at "rd"
    refine ⟨Rd.small (by show 3 ≤ 100000; decide), fun l5 h5 => ?_⟩
    have o5 := upd_same (H := G17) (a := l5) (o := HO.lst [V.ref a15, V.ref a16, V.ref a17])
    have z5 := same_new (o := HO.lst [V.ref a15, V.ref a16, V.ref a17]) h5
    generalize upd G17 l5 (HO.lst [V.ref a15, V.ref a16, V.ref a17]) = N5 at o5 z5 ⊢
    replace P0 := P0.same z5
    replace t0 := t0.trans z5
    replace x4 := z5 _ _ x4
    walk_at "rd"
    refine ⟨_, _, _, _, rfl, rfl, x4, o5, Rd.small (by show 18 ≤ 100000; decide), fun c5 k5 => ?_⟩
    have x5 : upd N5 c5 (HO.lst [V.ref a0, V.ref a1, V.ref a2, V.ref a3, V.ref a4, V.ref a5, V.ref a6, V.ref a7, V.ref a8, V.ref a9, V.ref a10, V.ref a11, V.ref a12, V.ref a13, V.ref a14, V.ref a15, V.ref a16, V.ref a17]) c5 = some (HO.lst [V.ref a0, V.ref a1, V.ref a2, V.ref a3, V.ref a4, V.ref a5, V.ref a6, V.ref a7, V.ref a8, V.ref a9, V.ref a10, V.ref a11, V.ref a12, V.ref a13, V.ref a14, V.ref a15, V.ref a16, V.ref a17]) := upd_same
    have y5 := same_new (o := HO.lst [V.ref a0, V.ref a1, V.ref a2, V.ref a3, V.ref a4, V.ref a5, V.ref a6, V.ref a7, V.ref a8, V.ref a9, V.ref a10, V.ref a11, V.ref a12, V.ref a13, V.ref a14, V.ref a15, V.ref a16, V.ref a17]) k5
    replace P0 := P0.same y5
    replace t0 := t0.trans y5
    walk_at "rd"
    refine rd_k1 (K := K) (u := u) (r := ⟨"InvalidText", 20, 0, ["line"]⟩) rfl rfl rfl fun a18 G18 s18 e18 => ?_
    replace P0 := Errs.snoc s18 e18 P0
    replace t0 := t0.trans s18
    replace x5 := s18 _ _ x5
    walk_at "rd"
    refine rd_k1 (K := K) (u := u) (r := ⟨"InvalidClaim", 21, 0, ["value"]⟩) rfl rfl rfl fun a19 G19 s19 e19 => ?_
    replace P0 := Errs.snoc s19 e19 P0
    replace t0 := t0.trans s19
    replace x5 := s19 _ _ x5
    walk_at "rd"
    refine rd_k1 (K := K) (u := u) (r := ⟨"InvalidCommand", 22, 0, ["value"]⟩) rfl rfl rfl fun a20 G20 s20 e20 => ?_
    replace P0 := Errs.snoc s20 e20 P0
    replace t0 := t0.trans s20
    replace x5 := s20 _ _ x5
    walk_at "rd"
    refine ⟨Rd.small (by show 3 ≤ 100000; decide), fun l6 h6 => ?_⟩
    have o6 := upd_same (H := G20) (a := l6) (o := HO.lst [V.ref a18, V.ref a19, V.ref a20])
    have z6 := same_new (o := HO.lst [V.ref a18, V.ref a19, V.ref a20]) h6
    generalize upd G20 l6 (HO.lst [V.ref a18, V.ref a19, V.ref a20]) = N6 at o6 z6 ⊢
    replace P0 := P0.same z6
    replace t0 := t0.trans z6
    replace x5 := z6 _ _ x5
    walk_at "rd"
    refine ⟨_, _, _, _, rfl, rfl, x5, o6, Rd.small (by show 21 ≤ 100000; decide), fun c6 k6 => ?_⟩
    have x6 : upd N6 c6 (HO.lst [V.ref a0, V.ref a1, V.ref a2, V.ref a3, V.ref a4, V.ref a5, V.ref a6, V.ref a7, V.ref a8, V.ref a9, V.ref a10, V.ref a11, V.ref a12, V.ref a13, V.ref a14, V.ref a15, V.ref a16, V.ref a17, V.ref a18, V.ref a19, V.ref a20]) c6 = some (HO.lst [V.ref a0, V.ref a1, V.ref a2, V.ref a3, V.ref a4, V.ref a5, V.ref a6, V.ref a7, V.ref a8, V.ref a9, V.ref a10, V.ref a11, V.ref a12, V.ref a13, V.ref a14, V.ref a15, V.ref a16, V.ref a17, V.ref a18, V.ref a19, V.ref a20]) := upd_same
    have y6 := same_new (o := HO.lst [V.ref a0, V.ref a1, V.ref a2, V.ref a3, V.ref a4, V.ref a5, V.ref a6, V.ref a7, V.ref a8, V.ref a9, V.ref a10, V.ref a11, V.ref a12, V.ref a13, V.ref a14, V.ref a15, V.ref a16, V.ref a17, V.ref a18, V.ref a19, V.ref a20]) k6
    replace P0 := P0.same y6
    replace t0 := t0.trans y6
    walk_at "rd"
    refine rd_k1 (K := K) (u := u) (r := ⟨"UnknownColumn", 24, 1, ["value"]⟩) rfl rfl rfl fun a21 G21 s21 e21 => ?_
    replace P0 := Errs.snoc s21 e21 P0
    replace t0 := t0.trans s21
    replace x6 := s21 _ _ x6
    walk_at "rd"
    refine rd_k1 (K := K) (u := u) (r := ⟨"UnknownKind", 25, 1, ["value"]⟩) rfl rfl rfl fun a22 G22 s22 e22 => ?_
    replace P0 := Errs.snoc s22 e22 P0
    replace t0 := t0.trans s22
    replace x6 := s22 _ _ x6
    walk_at "rd"
    refine rd_k1 (K := K) (u := u) (r := ⟨"UnknownPlace", 26, 1, ["value"]⟩) rfl rfl rfl fun a23 G23 s23 e23 => ?_
    replace P0 := Errs.snoc s23 e23 P0
    replace t0 := t0.trans s23
    replace x6 := s23 _ _ x6
    walk_at "rd"
    refine ⟨Rd.small (by show 3 ≤ 100000; decide), fun l7 h7 => ?_⟩
    have o7 := upd_same (H := G23) (a := l7) (o := HO.lst [V.ref a21, V.ref a22, V.ref a23])
    have z7 := same_new (o := HO.lst [V.ref a21, V.ref a22, V.ref a23]) h7
    generalize upd G23 l7 (HO.lst [V.ref a21, V.ref a22, V.ref a23]) = N7 at o7 z7 ⊢
    replace P0 := P0.same z7
    replace t0 := t0.trans z7
    replace x6 := z7 _ _ x6
    walk_at "rd"
    refine ⟨_, _, _, _, rfl, rfl, x6, o7, Rd.small (by show 24 ≤ 100000; decide), fun c7 k7 => ?_⟩
    have x7 : upd N7 c7 (HO.lst [V.ref a0, V.ref a1, V.ref a2, V.ref a3, V.ref a4, V.ref a5, V.ref a6, V.ref a7, V.ref a8, V.ref a9, V.ref a10, V.ref a11, V.ref a12, V.ref a13, V.ref a14, V.ref a15, V.ref a16, V.ref a17, V.ref a18, V.ref a19, V.ref a20, V.ref a21, V.ref a22, V.ref a23]) c7 = some (HO.lst [V.ref a0, V.ref a1, V.ref a2, V.ref a3, V.ref a4, V.ref a5, V.ref a6, V.ref a7, V.ref a8, V.ref a9, V.ref a10, V.ref a11, V.ref a12, V.ref a13, V.ref a14, V.ref a15, V.ref a16, V.ref a17, V.ref a18, V.ref a19, V.ref a20, V.ref a21, V.ref a22, V.ref a23]) := upd_same
    have y7 := same_new (o := HO.lst [V.ref a0, V.ref a1, V.ref a2, V.ref a3, V.ref a4, V.ref a5, V.ref a6, V.ref a7, V.ref a8, V.ref a9, V.ref a10, V.ref a11, V.ref a12, V.ref a13, V.ref a14, V.ref a15, V.ref a16, V.ref a17, V.ref a18, V.ref a19, V.ref a20, V.ref a21, V.ref a22, V.ref a23]) k7
    replace P0 := P0.same y7
    replace t0 := t0.trans y7
    walk_at "rd"
    refine rd_k1 (K := K) (u := u) (r := ⟨"UnknownName", 27, 1, ["value"]⟩) rfl rfl rfl fun a24 G24 s24 e24 => ?_
    replace P0 := Errs.snoc s24 e24 P0
    replace t0 := t0.trans s24
    replace x7 := s24 _ _ x7
    walk_at "rd"
    refine rd_k1 (K := K) (u := u) (r := ⟨"NotAllowed", 29, 2, ["row"]⟩) rfl rfl rfl fun a25 G25 s25 e25 => ?_
    replace P0 := Errs.snoc s25 e25 P0
    replace t0 := t0.trans s25
    replace x7 := s25 _ _ x7
    walk_at "rd"
    refine rd_k1 (K := K) (u := u) (r := ⟨"NotFull", 30, 2, ["column"]⟩) rfl rfl rfl fun a26 G26 s26 e26 => ?_
    replace P0 := Errs.snoc s26 e26 P0
    replace t0 := t0.trans s26
    replace x7 := s26 _ _ x7
    walk_at "rd"
    refine rd_0 (K := K) (u := u) (v := v) (r := ⟨"OtherPlan", 31, 2, []⟩) rfl rfl fun a27 G27 s27 e27 => ?_
    replace P0 := Errs.snoc s27 e27 P0
    replace t0 := t0.trans s27
    replace x7 := s27 _ _ x7
    walk_at "rd"
    refine ⟨Rd.small (by show 4 ≤ 100000; decide), fun l8 h8 => ?_⟩
    have o8 := upd_same (H := G27) (a := l8) (o := HO.lst [V.ref a24, V.ref a25, V.ref a26, V.ref a27])
    have z8 := same_new (o := HO.lst [V.ref a24, V.ref a25, V.ref a26, V.ref a27]) h8
    generalize upd G27 l8 (HO.lst [V.ref a24, V.ref a25, V.ref a26, V.ref a27]) = N8 at o8 z8 ⊢
    replace P0 := P0.same z8
    replace t0 := t0.trans z8
    replace x7 := z8 _ _ x7
    walk_at "rd"
    refine ⟨_, _, _, _, rfl, rfl, x7, o8, Rd.small (by show 28 ≤ 100000; decide), fun c8 k8 => ?_⟩
    have x8 : upd N8 c8 (HO.lst [V.ref a0, V.ref a1, V.ref a2, V.ref a3, V.ref a4, V.ref a5, V.ref a6, V.ref a7, V.ref a8, V.ref a9, V.ref a10, V.ref a11, V.ref a12, V.ref a13, V.ref a14, V.ref a15, V.ref a16, V.ref a17, V.ref a18, V.ref a19, V.ref a20, V.ref a21, V.ref a22, V.ref a23, V.ref a24, V.ref a25, V.ref a26, V.ref a27]) c8 = some (HO.lst [V.ref a0, V.ref a1, V.ref a2, V.ref a3, V.ref a4, V.ref a5, V.ref a6, V.ref a7, V.ref a8, V.ref a9, V.ref a10, V.ref a11, V.ref a12, V.ref a13, V.ref a14, V.ref a15, V.ref a16, V.ref a17, V.ref a18, V.ref a19, V.ref a20, V.ref a21, V.ref a22, V.ref a23, V.ref a24, V.ref a25, V.ref a26, V.ref a27]) := upd_same
    have y8 := same_new (o := HO.lst [V.ref a0, V.ref a1, V.ref a2, V.ref a3, V.ref a4, V.ref a5, V.ref a6, V.ref a7, V.ref a8, V.ref a9, V.ref a10, V.ref a11, V.ref a12, V.ref a13, V.ref a14, V.ref a15, V.ref a16, V.ref a17, V.ref a18, V.ref a19, V.ref a20, V.ref a21, V.ref a22, V.ref a23, V.ref a24, V.ref a25, V.ref a26, V.ref a27]) k8
    replace P0 := P0.same y8
    replace t0 := t0.trans y8
    walk_at "rd"
    refine rd_k1 (K := K) (u := u) (r := ⟨"NotTurning", 32, 2, ["place"]⟩) rfl rfl rfl fun a28 G28 s28 e28 => ?_
    replace P0 := Errs.snoc s28 e28 P0
    replace t0 := t0.trans s28
    replace x8 := s28 _ _ x8
    walk_at "rd"
    refine rd_k1 (K := K) (u := u) (r := ⟨"NameTaken", 33, 2, ["name"]⟩) rfl rfl rfl fun a29 G29 s29 e29 => ?_
    replace P0 := Errs.snoc s29 e29 P0
    replace t0 := t0.trans s29
    replace x8 := s29 _ _ x8
    walk_at "rd"
    refine rd_0 (K := K) (u := u) (v := v) (r := ⟨"NothingToUndo", 34, 2, []⟩) rfl rfl fun a30 G30 s30 e30 => ?_
    replace P0 := Errs.snoc s30 e30 P0
    replace t0 := t0.trans s30
    replace x8 := s30 _ _ x8
    walk_at "rd"
    refine ⟨Rd.small (by show 3 ≤ 100000; decide), fun l9 h9 => ?_⟩
    have o9 := upd_same (H := G30) (a := l9) (o := HO.lst [V.ref a28, V.ref a29, V.ref a30])
    have z9 := same_new (o := HO.lst [V.ref a28, V.ref a29, V.ref a30]) h9
    generalize upd G30 l9 (HO.lst [V.ref a28, V.ref a29, V.ref a30]) = N9 at o9 z9 ⊢
    replace P0 := P0.same z9
    replace t0 := t0.trans z9
    replace x8 := z9 _ _ x8
    walk_at "rd"
    refine ⟨_, _, _, _, rfl, rfl, x8, o9, Rd.small (by show 31 ≤ 100000; decide), fun c9 k9 => ?_⟩
    have x9 : upd N9 c9 (HO.lst [V.ref a0, V.ref a1, V.ref a2, V.ref a3, V.ref a4, V.ref a5, V.ref a6, V.ref a7, V.ref a8, V.ref a9, V.ref a10, V.ref a11, V.ref a12, V.ref a13, V.ref a14, V.ref a15, V.ref a16, V.ref a17, V.ref a18, V.ref a19, V.ref a20, V.ref a21, V.ref a22, V.ref a23, V.ref a24, V.ref a25, V.ref a26, V.ref a27, V.ref a28, V.ref a29, V.ref a30]) c9 = some (HO.lst [V.ref a0, V.ref a1, V.ref a2, V.ref a3, V.ref a4, V.ref a5, V.ref a6, V.ref a7, V.ref a8, V.ref a9, V.ref a10, V.ref a11, V.ref a12, V.ref a13, V.ref a14, V.ref a15, V.ref a16, V.ref a17, V.ref a18, V.ref a19, V.ref a20, V.ref a21, V.ref a22, V.ref a23, V.ref a24, V.ref a25, V.ref a26, V.ref a27, V.ref a28, V.ref a29, V.ref a30]) := upd_same
    have y9 := same_new (o := HO.lst [V.ref a0, V.ref a1, V.ref a2, V.ref a3, V.ref a4, V.ref a5, V.ref a6, V.ref a7, V.ref a8, V.ref a9, V.ref a10, V.ref a11, V.ref a12, V.ref a13, V.ref a14, V.ref a15, V.ref a16, V.ref a17, V.ref a18, V.ref a19, V.ref a20, V.ref a21, V.ref a22, V.ref a23, V.ref a24, V.ref a25, V.ref a26, V.ref a27, V.ref a28, V.ref a29, V.ref a30]) k9
    replace P0 := P0.same y9
    replace t0 := t0.trans y9
    walk_at "rd"
    refine rd_k2 (K := K) (r := ⟨"TooMany", 36, 3, ["what", "limit"]⟩) rfl rfl rfl rfl fun a31 G31 s31 e31 => ?_
    replace P0 := Errs.snoc s31 e31 P0
    replace t0 := t0.trans s31
    replace x9 := s31 _ _ x9
    walk_at "rd"
    refine ⟨Rd.small (by show 1 ≤ 100000; decide), fun l10 h10 => ?_⟩
    have o10 := upd_same (H := G31) (a := l10) (o := HO.lst [V.ref a31])
    have z10 := same_new (o := HO.lst [V.ref a31]) h10
    generalize upd G31 l10 (HO.lst [V.ref a31]) = N10 at o10 z10 ⊢
    replace P0 := P0.same z10
    replace t0 := t0.trans z10
    replace x9 := z10 _ _ x9
    walk_at "rd"
    refine ⟨_, _, _, _, rfl, rfl, x9, o10, Rd.small (by show 32 ≤ 100000; decide), fun c10 k10 => ?_⟩
    have x10 : upd N10 c10 (HO.lst [V.ref a0, V.ref a1, V.ref a2, V.ref a3, V.ref a4, V.ref a5, V.ref a6, V.ref a7, V.ref a8, V.ref a9, V.ref a10, V.ref a11, V.ref a12, V.ref a13, V.ref a14, V.ref a15, V.ref a16, V.ref a17, V.ref a18, V.ref a19, V.ref a20, V.ref a21, V.ref a22, V.ref a23, V.ref a24, V.ref a25, V.ref a26, V.ref a27, V.ref a28, V.ref a29, V.ref a30, V.ref a31]) c10 = some (HO.lst [V.ref a0, V.ref a1, V.ref a2, V.ref a3, V.ref a4, V.ref a5, V.ref a6, V.ref a7, V.ref a8, V.ref a9, V.ref a10, V.ref a11, V.ref a12, V.ref a13, V.ref a14, V.ref a15, V.ref a16, V.ref a17, V.ref a18, V.ref a19, V.ref a20, V.ref a21, V.ref a22, V.ref a23, V.ref a24, V.ref a25, V.ref a26, V.ref a27, V.ref a28, V.ref a29, V.ref a30, V.ref a31]) := upd_same
    have y10 := same_new (o := HO.lst [V.ref a0, V.ref a1, V.ref a2, V.ref a3, V.ref a4, V.ref a5, V.ref a6, V.ref a7, V.ref a8, V.ref a9, V.ref a10, V.ref a11, V.ref a12, V.ref a13, V.ref a14, V.ref a15, V.ref a16, V.ref a17, V.ref a18, V.ref a19, V.ref a20, V.ref a21, V.ref a22, V.ref a23, V.ref a24, V.ref a25, V.ref a26, V.ref a27, V.ref a28, V.ref a29, V.ref a30, V.ref a31]) k10
    replace P0 := P0.same y10
    replace t0 := t0.trans y10
    simp only [List.nil_append, List.cons_append] at P0
    rw [← rows_lit] at P0
    exact q [a0, a1, a2, a3, a4, a5, a6, a7, a8, a9, a10, a11, a12, a13, a14, a15, a16, a17, a18, a19, a20, a21, a22, a23, a24, a25, a26, a27, a28, a29, a30, a31] _ _ t0 x10 P0
end
end K15

namespace K15
open PySem PySem.Spec PyProof.Rows L2
local macro_rules | `(tactic| walk_at "rd1") => `(tactic| first
  | (with_reducible refine Rd.seq ?_) | (with_reducible refine Rd.asg ?_) | (with_reducible refine Rd.ret ?_) | (with_reducible refine Rd.nxt ?_) | (with_reducible refine Rd.ifS ?_)
  | (with_reducible refine Rd.op ?_) | (with_reducible refine Rd.un ?_) | (with_reducible refine Rd.cb ?_) | (with_reducible refine Rd.cons ?_) | (with_reducible refine Rd.nil ?_) | (with_reducible refine Rd.ifx ?_)
  | (with_reducible refine Rd.test ?_) | (with_reducible refine Rd.testB ?_) | (with_reducible refine Rd.notT ?_) | (with_reducible refine Rd.isB ?_) | (with_reducible refine Rd.lst ?_) | (with_reducible refine Rd.tup ?_)
  | (with_reducible refine Rd.call ?_) | (with_reducible refine Rd.asgG ?_) | (with_reducible refine Rd.gNm ?_) | (with_reducible refine Rd.gSb ?_) | (with_reducible refine Rd.gC ?_) | (with_reducible refine Rd.gN ?_)
  | ((with_reducible refine' Rd.var ?hv ?_); (case hv => exact rfl)) | (with_reducible refine Rd.c ?_) | (with_reducible refine Rd.i0 ?_) | (with_reducible refine Rd.neg ?_)
  | ((with_reducible refine' Rd.iC ?hc ?_); (case hc => first | (show (0 : Int) < _; decide) | exact ⟨by decide, by decide⟩ | exact ⟨by decide, by decide, by decide⟩ | exact .inl ⟨by decide, by decide⟩ | exact .inr ⟨by decide, by decide⟩ | exact .inl ⟨by omega, by omega⟩ | (show (0 : Int) < _; omega) | exact ⟨by omega, by omega⟩))
  | ((with_reducible refine' Rd.eqS ?hc ?_); (case hc => rfl)) | ((with_reducible refine' Rd.neS ?hc ?_); (case hc => rfl)))
local macro_rules | `(tactic| walk_at "rd") => `(tactic| repeat walk_at "rd1")

/-! ### of which classes an error is, what it holds -/
theorem Errs.get {K : PySem.W.Frag} {H : Hp} {v u : V} : ∀ {as : List Addr} {rs : List Ec} {i : Nat} {r : Ec}, Errs K H v u as rs → rs[i]? = some r → ∃ a, as[i]? = some a ∧ ErrAt K H v u a r
  | _, _, _, _, .nil, e => by simp at e
  | _, _, 0, _, .cons h _, e => by
    simp at e
    subst e
    exact ⟨_, rfl, h⟩
  | _, _, i + 1, r, .cons _ t, e => by
    obtain ⟨a, h1, h2⟩ := Errs.get (i := i) (r := r) t (by simpa using e)
    exact ⟨a, by simpa using h1, h2⟩
/-- what isinstance answers of the classes of the text, of their bases -/
structure Kit (K : PySem.W.Frag) (mg : Str → Option Value) : Prop where
  one : ∀ r ∈ rows, ∀ q ∈ rows, PySem.W.kitOne K (.ref (He.ga K r.name)) (.ref (He.ga K q.name)) = some (r.at_ == q.at_)
  own : ∀ r ∈ rows, ∀ v ∈ [0, 1, 2, 3], PySem.W.kitOne K (.ref (He.ga K r.name)) (.ref (He.ga K (baseOf v))) = some (r.way == v)
  blt : ∀ r ∈ rows, ∀ v ∈ [0, 1, 2, 3], PySem.W.kitOne K (.ref (He.ga K r.name)) (.type (builtOf v)) = some (r.way == v)
  gb : ∀ v ∈ [0, 1, 2, 3], mg (baseOf v) = some (.ref (He.ga K (baseOf v)))
section
variable {K : PySem.W.Frag} {mg : Str → Option Value} {H : Hp} {v u z : V} {a : Addr} {r : Ec} {Q : VK}
theorem rd_is {c : V} {cv : Value} {b : Bool} (R : RowOk K mg r) (h : ErrAt K H v u a r) (hc : ∀ x, RelV c x → x = cv) (e : PySem.W.kitOne K (.ref (He.ga K r.name)) cv = some b) (q : Q (.bl b) H) : rIsX K [.ref a, c] H Q := by
  rcases h with ⟨_, h⟩ | ⟨_, d, h, h2⟩
  · exact ⟨a, _, none, c, cv, b, rfl, R.xc, h, fun _ z => (nomatch z), hc, e, q⟩
  · refine ⟨a, _, some d, c, cv, b, rfl, R.xc, h, fun dd z => ?_, hc, e, q⟩
    cases z
    exact ⟨_, h2⟩
theorem rd_xf {f : Str} {te : TE} {σ : L2.St} (R : RowOk K mg r) (h : te σ H fun x H1 => x = .ref a ∧ ErrAt K H1 v u a r ∧ f ∈ r.fs ∧ (fldsOf r v u).lookup f = some z ∧ Q z H1) (mono : ∀ {Q1 Q2 : VK}, (∀ x H1, Q1 x H1 → Q2 x H1) → te σ H Q1 → te σ H Q2) : tXf K te f σ H Q := by
  refine mono (fun x H1 hx => ?_) h
  obtain ⟨rfl, h, hf, hl, q⟩ := hx
  rcases h with ⟨e, _⟩ | ⟨_, d, h1, h2⟩
  · rw [e] at hf
    cases hf
  · exact ⟨a, _, d, _, z, rfl, R.xc, R.no f hf, h1, h2, hl, q⟩
/-- a field of the error at the place k of the list -/
theorem rd_at {l : Addr} {as : List Addr} {f : Str} {σ : L2.St} {tl tk : TE} {k : Nat} (R : RowOk K mg r) (hl : H l = some (.lst (as.map V.ref))) (E : Errs K H v u as rows) (hr : rows[k]? = some r) (hf : f ∈ r.fs) (hz : (fldsOf r v u).lookup f = some z)
    (h1 : ∀ Q' : VK, Q' (.ref l) H → tl σ H Q') (h2 : ∀ Q' : VK, Q' (.int (k : Int)) H → tk σ H Q') (q : Q z H) : tXf K (tOp (rIxL K) tl tk) f σ H Q := by
  obtain ⟨a, ha, h⟩ := E.get hr
  refine h1 _ (h2 _ ?_)
  refine Rd.ixL (SqL.of hl) (atI_nat (v := .ref a) (by rw [List.getElem?_map, ha]; rfl)) ?_
  rcases h with ⟨e, _⟩ | ⟨_, d, h1, h2⟩
  · rw [e] at hf
    cases hf
  · exact ⟨a, _, d, _, z, rfl, R.xc, R.no f hf, h1, h2, hz, q⟩
end
/-- a list comprehension without a test whose element changes nothing -/
theorem lcP {K : PySem.W.Frag} {a : Addr} {xs : List V} {i : Nat} {te : TE} {σ : L2.St} {H1 : Hp} {Q : VK} (ys : Nat → V) (hS : SqL K H1 a xs) (hl : xs.length ≤ 100000)
    (ht : ∀ k x, xs[k]? = some x → ∀ (H2 : Hp) (Q' : VK), Same H1 H2 → Q' (ys k) H2 → te ((wipe σ [i]).set i (some x)) H2 Q') (q : ∀ D H2, Same H1 H2 → H2 D = some (.lst ((List.range xs.length).map ys)) → Q (.ref D) H2) :
    ∀ D, H1 D = none → ∃ W : Nat → Nat → Hp → Prop, (∃ m, W 0 m (upd H1 D (.lst []))) ∧ ∀ k m H, W k m H →
      ((Itl K a).stop k H ∧ Q (.ref D) H) ∨ ((Itl K a).go k H ∧ ∃ Nx : Hp → Prop, (∀ H', Nx H' → ∃ m', m' < m ∧ W (k + 1) m' H') ∧ ∀ x H', (Itl K a).yld k H x H' → gName i x (wipe σ [i]) H' fun σ2 H2 => wipe σ2 [i] = wipe σ [i] ∧ tYes σ2 H2 fun b H3 =>
        if b = true then te σ2 H3 fun y H4 => ∃ acc, H4 D = some (.lst acc) ∧ acc.length < sizeLine ∧ Nx (upd H4 D (.lst (acc ++ [y]))) else Nx H3) := fun D hD => by
  refine lc_list (xs := xs) (fun k H2 => Same H1 H2 ∧ H2 D = some (.lst ((List.range k).map ys))) ⟨same_new hD, upd_same⟩ (fun k H2 _ p => p.1.seq hS) (fun k x H2 hx p => ?_) fun H2 p => q D H2 p.1 p.2
  refine ⟨by show List.set (List.set (List.set σ i none) i (some x)) i none = List.set σ i none; rw [List.set_set, List.set_set], iteT (B := Same H1 H2 ∧ H2 D = some (.lst ((List.range (k + 1)).map ys))) (ht k x hx H2 _ p.1 ⟨_, p.2, ?_, ?_, ?_⟩)⟩
  · have := (List.getElem?_eq_some_iff.mp hx).1
    rw [List.length_map, List.length_range]
    exact Nat.lt_of_lt_of_le (show k < 100001 by omega) (by decide)
  · intro b o e
    rw [upd_ne (ne_of_none e hD)]
    exact p.1 b o e
  · rw [upd_same, List.range_succ, List.map_append]
    rfl
abbrev sCls : Stmt := top 44
abbrev sBas : Stmt := top 45
abbrev sHeld : Stmt := top 46
abbrev sDue : Stmt := top 47
def clsL (r : Ec) : List V := rows.map fun q => .bl (r.at_ == q.at_)
def basL (r : Ec) : List V := ([0, 1, 2, 3].map fun v => .bl (r.way == v)) ++ [0, 1, 2, 3].map fun v => .bl (r.way == v)
def heldL (v u : V) : List V := List.replicate 16 v ++ [v, v, u, v] ++ [v, u, v, v] ++ [v, v, v] ++ [v, v, v, v, v, u]
def spCls (K : PySem.W.Frag) (L : Ec → List V) : Sp := fun vs H Q _ => ∃ (a : Addr) (r : Ec) (v u : V), vs = [.ref a] ∧ r ∈ rows ∧ ErrAt K H v u a r ∧ ∀ l H', Same H H' → H' l = some (.lst (L r)) → Q (.ref l) H'
def spHeld (K : PySem.W.Frag) : Sp := fun vs H Q _ => ∃ (l : Addr) (as : List Addr) (v u : V), vs = [.ref l] ∧ H l = some (.lst (as.map V.ref)) ∧ Errs K H v u as rows ∧ ∀ p H', Same H H' → H' p = some (.lst (heldL v u)) → Q (.ref p) H'
def spDue : Sp := fun vs H Q _ => ∃ (v u : V), vs = [v, u] ∧ ∀ p H', Same H H' → H' p = some (.lst (heldL v u)) → Q (.ref p) H'
section
variable {P : Program} {w : World} {K : PySem.W.Frag} {mg : Str → Option Value} {base : Heap} {f : Addr} {fd : FuncData}
theorem sc_cls : FnScope ["_law_one", "_law_found"] ["_law_one"] (defScope sCls) := ⟨rfl, rfl, rfl, by decide +kernel, rfl, by decide +kernel, by decide +kernel⟩
theorem ok_cls (F : FnP K "_law_classes" sCls f fd) (T : Cl K mg) (kt : Kit K mg) (gIs : mg "isinstance" = none) : FnOk P w K mg base CX0 1 f fd ["_law_one"] (spCls K clsL) := by
  have r0 : RowOk K mg ⟨"InvalidNumber", 2, 0, ["value"]⟩ := T.row _ (List.mem_of_getElem? (i := 0) rfl)
  have r1 : RowOk K mg ⟨"InvalidName", 3, 0, ["value"]⟩ := T.row _ (List.mem_of_getElem? (i := 1) rfl)
  have r2 : RowOk K mg ⟨"InvalidFormula", 4, 0, ["value"]⟩ := T.row _ (List.mem_of_getElem? (i := 2) rfl)
  have r3 : RowOk K mg ⟨"InvalidChosen", 5, 0, ["value"]⟩ := T.row _ (List.mem_of_getElem? (i := 3) rfl)
  have r4 : RowOk K mg ⟨"InvalidWhere", 6, 0, ["value"]⟩ := T.row _ (List.mem_of_getElem? (i := 4) rfl)
  have r5 : RowOk K mg ⟨"InvalidPosition", 7, 0, ["value"]⟩ := T.row _ (List.mem_of_getElem? (i := 5) rfl)
  have r6 : RowOk K mg ⟨"InvalidColumns", 8, 0, ["position"]⟩ := T.row _ (List.mem_of_getElem? (i := 6) rfl)
  have r7 : RowOk K mg ⟨"InvalidTop", 9, 0, ["column"]⟩ := T.row _ (List.mem_of_getElem? (i := 7) rfl)
  have r8 : RowOk K mg ⟨"InvalidKinds", 10, 0, ["kind", "column"]⟩ := T.row _ (List.mem_of_getElem? (i := 8) rfl)
  have r9 : RowOk K mg ⟨"InvalidPlan", 11, 0, ["place"]⟩ := T.row _ (List.mem_of_getElem? (i := 9) rfl)
  have r10 : RowOk K mg ⟨"InvalidWord", 12, 0, ["position"]⟩ := T.row _ (List.mem_of_getElem? (i := 10) rfl)
  have r11 : RowOk K mg ⟨"InvalidFill", 13, 0, ["part", "position"]⟩ := T.row _ (List.mem_of_getElem? (i := 11) rfl)
  have r12 : RowOk K mg ⟨"InvalidFoot", 14, 0, ["column"]⟩ := T.row _ (List.mem_of_getElem? (i := 12) rfl)
  have r13 : RowOk K mg ⟨"InvalidRow", 15, 0, ["value"]⟩ := T.row _ (List.mem_of_getElem? (i := 13) rfl)
  have r14 : RowOk K mg ⟨"InvalidCount", 16, 0, ["value"]⟩ := T.row _ (List.mem_of_getElem? (i := 14) rfl)
  have r15 : RowOk K mg ⟨"InvalidAbove", 17, 0, ["value"]⟩ := T.row _ (List.mem_of_getElem? (i := 15) rfl)
  have r16 : RowOk K mg ⟨"InvalidTable", 18, 0, ["value"]⟩ := T.row _ (List.mem_of_getElem? (i := 16) rfl)
  have r17 : RowOk K mg ⟨"InvalidStates", 19, 0, ["position"]⟩ := T.row _ (List.mem_of_getElem? (i := 17) rfl)
  have r18 : RowOk K mg ⟨"InvalidText", 20, 0, ["line"]⟩ := T.row _ (List.mem_of_getElem? (i := 18) rfl)
  have r19 : RowOk K mg ⟨"InvalidClaim", 21, 0, ["value"]⟩ := T.row _ (List.mem_of_getElem? (i := 19) rfl)
  have r20 : RowOk K mg ⟨"InvalidCommand", 22, 0, ["value"]⟩ := T.row _ (List.mem_of_getElem? (i := 20) rfl)
  have r21 : RowOk K mg ⟨"UnknownColumn", 24, 1, ["value"]⟩ := T.row _ (List.mem_of_getElem? (i := 21) rfl)
  have r22 : RowOk K mg ⟨"UnknownKind", 25, 1, ["value"]⟩ := T.row _ (List.mem_of_getElem? (i := 22) rfl)
  have r23 : RowOk K mg ⟨"UnknownPlace", 26, 1, ["value"]⟩ := T.row _ (List.mem_of_getElem? (i := 23) rfl)
  have r24 : RowOk K mg ⟨"UnknownName", 27, 1, ["value"]⟩ := T.row _ (List.mem_of_getElem? (i := 24) rfl)
  have r25 : RowOk K mg ⟨"NotAllowed", 29, 2, ["row"]⟩ := T.row _ (List.mem_of_getElem? (i := 25) rfl)
  have r26 : RowOk K mg ⟨"NotFull", 30, 2, ["column"]⟩ := T.row _ (List.mem_of_getElem? (i := 26) rfl)
  have r27 : RowOk K mg ⟨"OtherPlan", 31, 2, []⟩ := T.row _ (List.mem_of_getElem? (i := 27) rfl)
  have r28 : RowOk K mg ⟨"NotTurning", 32, 2, ["place"]⟩ := T.row _ (List.mem_of_getElem? (i := 28) rfl)
  have r29 : RowOk K mg ⟨"NameTaken", 33, 2, ["name"]⟩ := T.row _ (List.mem_of_getElem? (i := 29) rfl)
  have r30 : RowOk K mg ⟨"NothingToUndo", 34, 2, []⟩ := T.row _ (List.mem_of_getElem? (i := 30) rfl)
  have r31 : RowOk K mg ⟨"TooMany", 36, 3, ["what", "limit"]⟩ := T.row _ (List.mem_of_getElem? (i := 31) rfl)
  refine F.ok sc_cls (fun vs H Q E h => ?_) (fun cdv A outer s H vs Q E hr h => ?_)
  · obtain ⟨a, r, v, u, rfl, _⟩ := h
    rfl
  · obtain ⟨a, r, v, u, rfl, hr, he, q⟩ := h
    have R := T.row r hr
    refine ⟨_, PSs.nox (pss_cons (ps_set (i := 1) sc_cls.nd rfl (Or.inl rfl) (pe_lst (pa_cons (pe_callB call_isX rfl gIs boot_isinstance (pa_cons (pv 0) (pa_cons (pe_glob rfl r0.g (v := .ref (He.ga K "InvalidNumber")) rfl) pa_nil))) (pa_cons (pe_callB call_isX rfl gIs boot_isinstance (pa_cons (pv 0) (pa_cons (pe_glob rfl r1.g (v := .ref (He.ga K "InvalidName")) rfl) pa_nil))) (pa_cons (pe_callB call_isX rfl gIs boot_isinstance (pa_cons (pv 0) (pa_cons (pe_glob rfl r2.g (v := .ref (He.ga K "InvalidFormula")) rfl) pa_nil))) pa_nil)))))
      (pss_cons (ps_set (i := 1) sc_cls.nd rfl (Or.inl rfl) (pe_op op_cat (pv 1) (pe_lst (pa_cons (pe_callB call_isX rfl gIs boot_isinstance (pa_cons (pv 0) (pa_cons (pe_glob rfl r3.g (v := .ref (He.ga K "InvalidChosen")) rfl) pa_nil))) (pa_cons (pe_callB call_isX rfl gIs boot_isinstance (pa_cons (pv 0) (pa_cons (pe_glob rfl r4.g (v := .ref (He.ga K "InvalidWhere")) rfl) pa_nil))) (pa_cons (pe_callB call_isX rfl gIs boot_isinstance (pa_cons (pv 0) (pa_cons (pe_glob rfl r5.g (v := .ref (He.ga K "InvalidPosition")) rfl) pa_nil))) pa_nil))))))
      (pss_cons (ps_set (i := 1) sc_cls.nd rfl (Or.inl rfl) (pe_op op_cat (pv 1) (pe_lst (pa_cons (pe_callB call_isX rfl gIs boot_isinstance (pa_cons (pv 0) (pa_cons (pe_glob rfl r6.g (v := .ref (He.ga K "InvalidColumns")) rfl) pa_nil))) (pa_cons (pe_callB call_isX rfl gIs boot_isinstance (pa_cons (pv 0) (pa_cons (pe_glob rfl r7.g (v := .ref (He.ga K "InvalidTop")) rfl) pa_nil))) (pa_cons (pe_callB call_isX rfl gIs boot_isinstance (pa_cons (pv 0) (pa_cons (pe_glob rfl r8.g (v := .ref (He.ga K "InvalidKinds")) rfl) pa_nil))) pa_nil))))))
      (pss_cons (ps_set (i := 1) sc_cls.nd rfl (Or.inl rfl) (pe_op op_cat (pv 1) (pe_lst (pa_cons (pe_callB call_isX rfl gIs boot_isinstance (pa_cons (pv 0) (pa_cons (pe_glob rfl r9.g (v := .ref (He.ga K "InvalidPlan")) rfl) pa_nil))) (pa_cons (pe_callB call_isX rfl gIs boot_isinstance (pa_cons (pv 0) (pa_cons (pe_glob rfl r10.g (v := .ref (He.ga K "InvalidWord")) rfl) pa_nil))) (pa_cons (pe_callB call_isX rfl gIs boot_isinstance (pa_cons (pv 0) (pa_cons (pe_glob rfl r11.g (v := .ref (He.ga K "InvalidFill")) rfl) pa_nil))) pa_nil))))))
      (pss_cons (ps_set (i := 1) sc_cls.nd rfl (Or.inl rfl) (pe_op op_cat (pv 1) (pe_lst (pa_cons (pe_callB call_isX rfl gIs boot_isinstance (pa_cons (pv 0) (pa_cons (pe_glob rfl r12.g (v := .ref (He.ga K "InvalidFoot")) rfl) pa_nil))) (pa_cons (pe_callB call_isX rfl gIs boot_isinstance (pa_cons (pv 0) (pa_cons (pe_glob rfl r13.g (v := .ref (He.ga K "InvalidRow")) rfl) pa_nil))) (pa_cons (pe_callB call_isX rfl gIs boot_isinstance (pa_cons (pv 0) (pa_cons (pe_glob rfl r14.g (v := .ref (He.ga K "InvalidCount")) rfl) pa_nil))) pa_nil))))))
      (pss_cons (ps_set (i := 1) sc_cls.nd rfl (Or.inl rfl) (pe_op op_cat (pv 1) (pe_lst (pa_cons (pe_callB call_isX rfl gIs boot_isinstance (pa_cons (pv 0) (pa_cons (pe_glob rfl r15.g (v := .ref (He.ga K "InvalidAbove")) rfl) pa_nil))) (pa_cons (pe_callB call_isX rfl gIs boot_isinstance (pa_cons (pv 0) (pa_cons (pe_glob rfl r16.g (v := .ref (He.ga K "InvalidTable")) rfl) pa_nil))) (pa_cons (pe_callB call_isX rfl gIs boot_isinstance (pa_cons (pv 0) (pa_cons (pe_glob rfl r17.g (v := .ref (He.ga K "InvalidStates")) rfl) pa_nil))) pa_nil))))))
      (pss_cons (ps_set (i := 1) sc_cls.nd rfl (Or.inl rfl) (pe_op op_cat (pv 1) (pe_lst (pa_cons (pe_callB call_isX rfl gIs boot_isinstance (pa_cons (pv 0) (pa_cons (pe_glob rfl r18.g (v := .ref (He.ga K "InvalidText")) rfl) pa_nil))) (pa_cons (pe_callB call_isX rfl gIs boot_isinstance (pa_cons (pv 0) (pa_cons (pe_glob rfl r19.g (v := .ref (He.ga K "InvalidClaim")) rfl) pa_nil))) (pa_cons (pe_callB call_isX rfl gIs boot_isinstance (pa_cons (pv 0) (pa_cons (pe_glob rfl r20.g (v := .ref (He.ga K "InvalidCommand")) rfl) pa_nil))) pa_nil))))))
      (pss_cons (ps_set (i := 1) sc_cls.nd rfl (Or.inl rfl) (pe_op op_cat (pv 1) (pe_lst (pa_cons (pe_callB call_isX rfl gIs boot_isinstance (pa_cons (pv 0) (pa_cons (pe_glob rfl r21.g (v := .ref (He.ga K "UnknownColumn")) rfl) pa_nil))) (pa_cons (pe_callB call_isX rfl gIs boot_isinstance (pa_cons (pv 0) (pa_cons (pe_glob rfl r22.g (v := .ref (He.ga K "UnknownKind")) rfl) pa_nil))) (pa_cons (pe_callB call_isX rfl gIs boot_isinstance (pa_cons (pv 0) (pa_cons (pe_glob rfl r23.g (v := .ref (He.ga K "UnknownPlace")) rfl) pa_nil))) pa_nil))))))
      (pss_cons (ps_set (i := 1) sc_cls.nd rfl (Or.inl rfl) (pe_op op_cat (pv 1) (pe_lst (pa_cons (pe_callB call_isX rfl gIs boot_isinstance (pa_cons (pv 0) (pa_cons (pe_glob rfl r24.g (v := .ref (He.ga K "UnknownName")) rfl) pa_nil))) (pa_cons (pe_callB call_isX rfl gIs boot_isinstance (pa_cons (pv 0) (pa_cons (pe_glob rfl r25.g (v := .ref (He.ga K "NotAllowed")) rfl) pa_nil))) (pa_cons (pe_callB call_isX rfl gIs boot_isinstance (pa_cons (pv 0) (pa_cons (pe_glob rfl r26.g (v := .ref (He.ga K "NotFull")) rfl) pa_nil))) pa_nil))))))
      (pss_cons (ps_set (i := 1) sc_cls.nd rfl (Or.inl rfl) (pe_op op_cat (pv 1) (pe_lst (pa_cons (pe_callB call_isX rfl gIs boot_isinstance (pa_cons (pv 0) (pa_cons (pe_glob rfl r27.g (v := .ref (He.ga K "OtherPlan")) rfl) pa_nil))) (pa_cons (pe_callB call_isX rfl gIs boot_isinstance (pa_cons (pv 0) (pa_cons (pe_glob rfl r28.g (v := .ref (He.ga K "NotTurning")) rfl) pa_nil))) (pa_cons (pe_callB call_isX rfl gIs boot_isinstance (pa_cons (pv 0) (pa_cons (pe_glob rfl r29.g (v := .ref (He.ga K "NameTaken")) rfl) pa_nil))) pa_nil))))))
      (pss_cons (ps_set (i := 1) sc_cls.nd rfl (Or.inl rfl) (pe_op op_cat (pv 1) (pe_lst (pa_cons (pe_callB call_isX rfl gIs boot_isinstance (pa_cons (pv 0) (pa_cons (pe_glob rfl r30.g (v := .ref (He.ga K "NothingToUndo")) rfl) pa_nil))) (pa_cons (pe_callB call_isX rfl gIs boot_isinstance (pa_cons (pv 0) (pa_cons (pe_glob rfl r31.g (v := .ref (He.ga K "TooMany")) rfl) pa_nil))) pa_nil)))))
      (pss_one (ps_ret (pv 1)))))))))))))), ?_⟩
    have t0 : Same H H := Same.refl H
    walk_at "rd"
    refine rd_is R he (fun x hx => hx) (show PySem.W.kitOne K (.ref (He.ga K r.name)) (.ref (He.ga K "InvalidNumber")) = some (r.at_ == 2) from kt.one r hr ⟨"InvalidNumber", 2, 0, ["value"]⟩ (List.mem_of_getElem? (i := 0) rfl)) ?_
    walk_at "rd"
    refine rd_is R he (fun x hx => hx) (show PySem.W.kitOne K (.ref (He.ga K r.name)) (.ref (He.ga K "InvalidName")) = some (r.at_ == 3) from kt.one r hr ⟨"InvalidName", 3, 0, ["value"]⟩ (List.mem_of_getElem? (i := 1) rfl)) ?_
    walk_at "rd"
    refine rd_is R he (fun x hx => hx) (show PySem.W.kitOne K (.ref (He.ga K r.name)) (.ref (He.ga K "InvalidFormula")) = some (r.at_ == 4) from kt.one r hr ⟨"InvalidFormula", 4, 0, ["value"]⟩ (List.mem_of_getElem? (i := 2) rfl)) ?_
    walk_at "rd"
    refine ⟨Rd.small (by show 3 ≤ 100000; decide), fun l0 h0 => ?_⟩
    have o0 := upd_same (H := H) (a := l0) (o := HO.lst [V.bl (r.at_ == 2), V.bl (r.at_ == 3), V.bl (r.at_ == 4)])
    have z0 := same_new (o := HO.lst [V.bl (r.at_ == 2), V.bl (r.at_ == 3), V.bl (r.at_ == 4)]) h0
    generalize upd H l0 (HO.lst [V.bl (r.at_ == 2), V.bl (r.at_ == 3), V.bl (r.at_ == 4)]) = N0 at o0 z0 ⊢
    replace he := he.same z0
    replace t0 := t0.trans z0
    walk_at "rd"
    refine rd_is R he (fun x hx => hx) (show PySem.W.kitOne K (.ref (He.ga K r.name)) (.ref (He.ga K "InvalidChosen")) = some (r.at_ == 5) from kt.one r hr ⟨"InvalidChosen", 5, 0, ["value"]⟩ (List.mem_of_getElem? (i := 3) rfl)) ?_
    walk_at "rd"
    refine rd_is R he (fun x hx => hx) (show PySem.W.kitOne K (.ref (He.ga K r.name)) (.ref (He.ga K "InvalidWhere")) = some (r.at_ == 6) from kt.one r hr ⟨"InvalidWhere", 6, 0, ["value"]⟩ (List.mem_of_getElem? (i := 4) rfl)) ?_
    walk_at "rd"
    refine rd_is R he (fun x hx => hx) (show PySem.W.kitOne K (.ref (He.ga K r.name)) (.ref (He.ga K "InvalidPosition")) = some (r.at_ == 7) from kt.one r hr ⟨"InvalidPosition", 7, 0, ["value"]⟩ (List.mem_of_getElem? (i := 5) rfl)) ?_
    walk_at "rd"
    refine ⟨Rd.small (by show 3 ≤ 100000; decide), fun l1 h1 => ?_⟩
    have o1 := upd_same (H := N0) (a := l1) (o := HO.lst [V.bl (r.at_ == 5), V.bl (r.at_ == 6), V.bl (r.at_ == 7)])
    have z1 := same_new (o := HO.lst [V.bl (r.at_ == 5), V.bl (r.at_ == 6), V.bl (r.at_ == 7)]) h1
    generalize upd N0 l1 (HO.lst [V.bl (r.at_ == 5), V.bl (r.at_ == 6), V.bl (r.at_ == 7)]) = N1 at o1 z1 ⊢
    replace he := he.same z1
    replace t0 := t0.trans z1
    replace o0 := z1 _ _ o0
    walk_at "rd"
    refine ⟨_, _, _, _, rfl, rfl, o0, o1, Rd.small (by show 6 ≤ 100000; decide), fun c1 k1 => ?_⟩
    have x1 := upd_same (H := N1) (a := c1) (o := HO.lst ([V.bl (r.at_ == 2), V.bl (r.at_ == 3), V.bl (r.at_ == 4)] ++ [V.bl (r.at_ == 5), V.bl (r.at_ == 6), V.bl (r.at_ == 7)]))
    have y1 := same_new (o := HO.lst ([V.bl (r.at_ == 2), V.bl (r.at_ == 3), V.bl (r.at_ == 4)] ++ [V.bl (r.at_ == 5), V.bl (r.at_ == 6), V.bl (r.at_ == 7)])) k1
    generalize upd N1 c1 (HO.lst ([V.bl (r.at_ == 2), V.bl (r.at_ == 3), V.bl (r.at_ == 4)] ++ [V.bl (r.at_ == 5), V.bl (r.at_ == 6), V.bl (r.at_ == 7)])) = M1 at x1 y1 ⊢
    replace x1 : M1 c1 = some (HO.lst [V.bl (r.at_ == 2), V.bl (r.at_ == 3), V.bl (r.at_ == 4), V.bl (r.at_ == 5), V.bl (r.at_ == 6), V.bl (r.at_ == 7)]) := x1
    replace he := he.same y1
    replace t0 := t0.trans y1
    walk_at "rd"
    refine rd_is R he (fun x hx => hx) (show PySem.W.kitOne K (.ref (He.ga K r.name)) (.ref (He.ga K "InvalidColumns")) = some (r.at_ == 8) from kt.one r hr ⟨"InvalidColumns", 8, 0, ["position"]⟩ (List.mem_of_getElem? (i := 6) rfl)) ?_
    walk_at "rd"
    refine rd_is R he (fun x hx => hx) (show PySem.W.kitOne K (.ref (He.ga K r.name)) (.ref (He.ga K "InvalidTop")) = some (r.at_ == 9) from kt.one r hr ⟨"InvalidTop", 9, 0, ["column"]⟩ (List.mem_of_getElem? (i := 7) rfl)) ?_
    walk_at "rd"
    refine rd_is R he (fun x hx => hx) (show PySem.W.kitOne K (.ref (He.ga K r.name)) (.ref (He.ga K "InvalidKinds")) = some (r.at_ == 10) from kt.one r hr ⟨"InvalidKinds", 10, 0, ["kind", "column"]⟩ (List.mem_of_getElem? (i := 8) rfl)) ?_
    walk_at "rd"
    refine ⟨Rd.small (by show 3 ≤ 100000; decide), fun l2 h2 => ?_⟩
    have o2 := upd_same (H := M1) (a := l2) (o := HO.lst [V.bl (r.at_ == 8), V.bl (r.at_ == 9), V.bl (r.at_ == 10)])
    have z2 := same_new (o := HO.lst [V.bl (r.at_ == 8), V.bl (r.at_ == 9), V.bl (r.at_ == 10)]) h2
    generalize upd M1 l2 (HO.lst [V.bl (r.at_ == 8), V.bl (r.at_ == 9), V.bl (r.at_ == 10)]) = N2 at o2 z2 ⊢
    replace he := he.same z2
    replace t0 := t0.trans z2
    replace x1 := z2 _ _ x1
    walk_at "rd"
    refine ⟨_, _, _, _, rfl, rfl, x1, o2, Rd.small (by show 9 ≤ 100000; decide), fun c2 k2 => ?_⟩
    have x2 := upd_same (H := N2) (a := c2) (o := HO.lst ([V.bl (r.at_ == 2), V.bl (r.at_ == 3), V.bl (r.at_ == 4), V.bl (r.at_ == 5), V.bl (r.at_ == 6), V.bl (r.at_ == 7)] ++ [V.bl (r.at_ == 8), V.bl (r.at_ == 9), V.bl (r.at_ == 10)]))
    have y2 := same_new (o := HO.lst ([V.bl (r.at_ == 2), V.bl (r.at_ == 3), V.bl (r.at_ == 4), V.bl (r.at_ == 5), V.bl (r.at_ == 6), V.bl (r.at_ == 7)] ++ [V.bl (r.at_ == 8), V.bl (r.at_ == 9), V.bl (r.at_ == 10)])) k2
    generalize upd N2 c2 (HO.lst ([V.bl (r.at_ == 2), V.bl (r.at_ == 3), V.bl (r.at_ == 4), V.bl (r.at_ == 5), V.bl (r.at_ == 6), V.bl (r.at_ == 7)] ++ [V.bl (r.at_ == 8), V.bl (r.at_ == 9), V.bl (r.at_ == 10)])) = M2 at x2 y2 ⊢
    replace x2 : M2 c2 = some (HO.lst [V.bl (r.at_ == 2), V.bl (r.at_ == 3), V.bl (r.at_ == 4), V.bl (r.at_ == 5), V.bl (r.at_ == 6), V.bl (r.at_ == 7), V.bl (r.at_ == 8), V.bl (r.at_ == 9), V.bl (r.at_ == 10)]) := x2
    replace he := he.same y2
    replace t0 := t0.trans y2
    walk_at "rd"
    refine rd_is R he (fun x hx => hx) (show PySem.W.kitOne K (.ref (He.ga K r.name)) (.ref (He.ga K "InvalidPlan")) = some (r.at_ == 11) from kt.one r hr ⟨"InvalidPlan", 11, 0, ["place"]⟩ (List.mem_of_getElem? (i := 9) rfl)) ?_
    walk_at "rd"
    refine rd_is R he (fun x hx => hx) (show PySem.W.kitOne K (.ref (He.ga K r.name)) (.ref (He.ga K "InvalidWord")) = some (r.at_ == 12) from kt.one r hr ⟨"InvalidWord", 12, 0, ["position"]⟩ (List.mem_of_getElem? (i := 10) rfl)) ?_
    walk_at "rd"
    refine rd_is R he (fun x hx => hx) (show PySem.W.kitOne K (.ref (He.ga K r.name)) (.ref (He.ga K "InvalidFill")) = some (r.at_ == 13) from kt.one r hr ⟨"InvalidFill", 13, 0, ["part", "position"]⟩ (List.mem_of_getElem? (i := 11) rfl)) ?_
    walk_at "rd"
    refine ⟨Rd.small (by show 3 ≤ 100000; decide), fun l3 h3 => ?_⟩
    have o3 := upd_same (H := M2) (a := l3) (o := HO.lst [V.bl (r.at_ == 11), V.bl (r.at_ == 12), V.bl (r.at_ == 13)])
    have z3 := same_new (o := HO.lst [V.bl (r.at_ == 11), V.bl (r.at_ == 12), V.bl (r.at_ == 13)]) h3
    generalize upd M2 l3 (HO.lst [V.bl (r.at_ == 11), V.bl (r.at_ == 12), V.bl (r.at_ == 13)]) = N3 at o3 z3 ⊢
    replace he := he.same z3
    replace t0 := t0.trans z3
    replace x2 := z3 _ _ x2
    walk_at "rd"
    refine ⟨_, _, _, _, rfl, rfl, x2, o3, Rd.small (by show 12 ≤ 100000; decide), fun c3 k3 => ?_⟩
    have x3 := upd_same (H := N3) (a := c3) (o := HO.lst ([V.bl (r.at_ == 2), V.bl (r.at_ == 3), V.bl (r.at_ == 4), V.bl (r.at_ == 5), V.bl (r.at_ == 6), V.bl (r.at_ == 7), V.bl (r.at_ == 8), V.bl (r.at_ == 9), V.bl (r.at_ == 10)] ++ [V.bl (r.at_ == 11), V.bl (r.at_ == 12), V.bl (r.at_ == 13)]))
    have y3 := same_new (o := HO.lst ([V.bl (r.at_ == 2), V.bl (r.at_ == 3), V.bl (r.at_ == 4), V.bl (r.at_ == 5), V.bl (r.at_ == 6), V.bl (r.at_ == 7), V.bl (r.at_ == 8), V.bl (r.at_ == 9), V.bl (r.at_ == 10)] ++ [V.bl (r.at_ == 11), V.bl (r.at_ == 12), V.bl (r.at_ == 13)])) k3
    generalize upd N3 c3 (HO.lst ([V.bl (r.at_ == 2), V.bl (r.at_ == 3), V.bl (r.at_ == 4), V.bl (r.at_ == 5), V.bl (r.at_ == 6), V.bl (r.at_ == 7), V.bl (r.at_ == 8), V.bl (r.at_ == 9), V.bl (r.at_ == 10)] ++ [V.bl (r.at_ == 11), V.bl (r.at_ == 12), V.bl (r.at_ == 13)])) = M3 at x3 y3 ⊢
    replace x3 : M3 c3 = some (HO.lst [V.bl (r.at_ == 2), V.bl (r.at_ == 3), V.bl (r.at_ == 4), V.bl (r.at_ == 5), V.bl (r.at_ == 6), V.bl (r.at_ == 7), V.bl (r.at_ == 8), V.bl (r.at_ == 9), V.bl (r.at_ == 10), V.bl (r.at_ == 11), V.bl (r.at_ == 12), V.bl (r.at_ == 13)]) := x3
    replace he := he.same y3
    replace t0 := t0.trans y3
    walk_at "rd"
    refine rd_is R he (fun x hx => hx) (show PySem.W.kitOne K (.ref (He.ga K r.name)) (.ref (He.ga K "InvalidFoot")) = some (r.at_ == 14) from kt.one r hr ⟨"InvalidFoot", 14, 0, ["column"]⟩ (List.mem_of_getElem? (i := 12) rfl)) ?_
    walk_at "rd"
    refine rd_is R he (fun x hx => hx) (show PySem.W.kitOne K (.ref (He.ga K r.name)) (.ref (He.ga K "InvalidRow")) = some (r.at_ == 15) from kt.one r hr ⟨"InvalidRow", 15, 0, ["value"]⟩ (List.mem_of_getElem? (i := 13) rfl)) ?_
    walk_at "rd"
    refine rd_is R he (fun x hx => hx) (show PySem.W.kitOne K (.ref (He.ga K r.name)) (.ref (He.ga K "InvalidCount")) = some (r.at_ == 16) from kt.one r hr ⟨"InvalidCount", 16, 0, ["value"]⟩ (List.mem_of_getElem? (i := 14) rfl)) ?_
    walk_at "rd"
    refine ⟨Rd.small (by show 3 ≤ 100000; decide), fun l4 h4 => ?_⟩
    have o4 := upd_same (H := M3) (a := l4) (o := HO.lst [V.bl (r.at_ == 14), V.bl (r.at_ == 15), V.bl (r.at_ == 16)])
    have z4 := same_new (o := HO.lst [V.bl (r.at_ == 14), V.bl (r.at_ == 15), V.bl (r.at_ == 16)]) h4
    generalize upd M3 l4 (HO.lst [V.bl (r.at_ == 14), V.bl (r.at_ == 15), V.bl (r.at_ == 16)]) = N4 at o4 z4 ⊢
    replace he := he.same z4
    replace t0 := t0.trans z4
    replace x3 := z4 _ _ x3
    walk_at "rd"
    refine ⟨_, _, _, _, rfl, rfl, x3, o4, Rd.small (by show 15 ≤ 100000; decide), fun c4 k4 => ?_⟩
    have x4 := upd_same (H := N4) (a := c4) (o := HO.lst ([V.bl (r.at_ == 2), V.bl (r.at_ == 3), V.bl (r.at_ == 4), V.bl (r.at_ == 5), V.bl (r.at_ == 6), V.bl (r.at_ == 7), V.bl (r.at_ == 8), V.bl (r.at_ == 9), V.bl (r.at_ == 10), V.bl (r.at_ == 11), V.bl (r.at_ == 12), V.bl (r.at_ == 13)] ++ [V.bl (r.at_ == 14), V.bl (r.at_ == 15), V.bl (r.at_ == 16)]))
    have y4 := same_new (o := HO.lst ([V.bl (r.at_ == 2), V.bl (r.at_ == 3), V.bl (r.at_ == 4), V.bl (r.at_ == 5), V.bl (r.at_ == 6), V.bl (r.at_ == 7), V.bl (r.at_ == 8), V.bl (r.at_ == 9), V.bl (r.at_ == 10), V.bl (r.at_ == 11), V.bl (r.at_ == 12), V.bl (r.at_ == 13)] ++ [V.bl (r.at_ == 14), V.bl (r.at_ == 15), V.bl (r.at_ == 16)])) k4
    generalize upd N4 c4 (HO.lst ([V.bl (r.at_ == 2), V.bl (r.at_ == 3), V.bl (r.at_ == 4), V.bl (r.at_ == 5), V.bl (r.at_ == 6), V.bl (r.at_ == 7), V.bl (r.at_ == 8), V.bl (r.at_ == 9), V.bl (r.at_ == 10), V.bl (r.at_ == 11), V.bl (r.at_ == 12), V.bl (r.at_ == 13)] ++ [V.bl (r.at_ == 14), V.bl (r.at_ == 15), V.bl (r.at_ == 16)])) = M4 at x4 y4 ⊢
    replace x4 : M4 c4 = some (HO.lst [V.bl (r.at_ == 2), V.bl (r.at_ == 3), V.bl (r.at_ == 4), V.bl (r.at_ == 5), V.bl (r.at_ == 6), V.bl (r.at_ == 7), V.bl (r.at_ == 8), V.bl (r.at_ == 9), V.bl (r.at_ == 10), V.bl (r.at_ == 11), V.bl (r.at_ == 12), V.bl (r.at_ == 13), V.bl (r.at_ == 14), V.bl (r.at_ == 15), V.bl (r.at_ == 16)]) := x4
    replace he := he.same y4
    replace t0 := t0.trans y4
    walk_at "rd"
    refine rd_is R he (fun x hx => hx) (show PySem.W.kitOne K (.ref (He.ga K r.name)) (.ref (He.ga K "InvalidAbove")) = some (r.at_ == 17) from kt.one r hr ⟨"InvalidAbove", 17, 0, ["value"]⟩ (List.mem_of_getElem? (i := 15) rfl)) ?_
    walk_at "rd"
    refine rd_is R he (fun x hx => hx) (show PySem.W.kitOne K (.ref (He.ga K r.name)) (.ref (He.ga K "InvalidTable")) = some (r.at_ == 18) from kt.one r hr ⟨"InvalidTable", 18, 0, ["value"]⟩ (List.mem_of_getElem? (i := 16) rfl)) ?_
    walk_at "rd"
    refine rd_is R he (fun x hx => hx) (show PySem.W.kitOne K (.ref (He.ga K r.name)) (.ref (He.ga K "InvalidStates")) = some (r.at_ == 19) from kt.one r hr ⟨"InvalidStates", 19, 0, ["position"]⟩ (List.mem_of_getElem? (i := 17) rfl)) ?_
    walk_at "rd"
    refine ⟨Rd.small (by show 3 ≤ 100000; decide), fun l5 h5 => ?_⟩
    have o5 := upd_same (H := M4) (a := l5) (o := HO.lst [V.bl (r.at_ == 17), V.bl (r.at_ == 18), V.bl (r.at_ == 19)])
    have z5 := same_new (o := HO.lst [V.bl (r.at_ == 17), V.bl (r.at_ == 18), V.bl (r.at_ == 19)]) h5
    generalize upd M4 l5 (HO.lst [V.bl (r.at_ == 17), V.bl (r.at_ == 18), V.bl (r.at_ == 19)]) = N5 at o5 z5 ⊢
    replace he := he.same z5
    replace t0 := t0.trans z5
    replace x4 := z5 _ _ x4
    walk_at "rd"
    refine ⟨_, _, _, _, rfl, rfl, x4, o5, Rd.small (by show 18 ≤ 100000; decide), fun c5 k5 => ?_⟩
    have x5 := upd_same (H := N5) (a := c5) (o := HO.lst ([V.bl (r.at_ == 2), V.bl (r.at_ == 3), V.bl (r.at_ == 4), V.bl (r.at_ == 5), V.bl (r.at_ == 6), V.bl (r.at_ == 7), V.bl (r.at_ == 8), V.bl (r.at_ == 9), V.bl (r.at_ == 10), V.bl (r.at_ == 11), V.bl (r.at_ == 12), V.bl (r.at_ == 13), V.bl (r.at_ == 14), V.bl (r.at_ == 15), V.bl (r.at_ == 16)] ++ [V.bl (r.at_ == 17), V.bl (r.at_ == 18), V.bl (r.at_ == 19)]))
    have y5 := same_new (o := HO.lst ([V.bl (r.at_ == 2), V.bl (r.at_ == 3), V.bl (r.at_ == 4), V.bl (r.at_ == 5), V.bl (r.at_ == 6), V.bl (r.at_ == 7), V.bl (r.at_ == 8), V.bl (r.at_ == 9), V.bl (r.at_ == 10), V.bl (r.at_ == 11), V.bl (r.at_ == 12), V.bl (r.at_ == 13), V.bl (r.at_ == 14), V.bl (r.at_ == 15), V.bl (r.at_ == 16)] ++ [V.bl (r.at_ == 17), V.bl (r.at_ == 18), V.bl (r.at_ == 19)])) k5
    generalize upd N5 c5 (HO.lst ([V.bl (r.at_ == 2), V.bl (r.at_ == 3), V.bl (r.at_ == 4), V.bl (r.at_ == 5), V.bl (r.at_ == 6), V.bl (r.at_ == 7), V.bl (r.at_ == 8), V.bl (r.at_ == 9), V.bl (r.at_ == 10), V.bl (r.at_ == 11), V.bl (r.at_ == 12), V.bl (r.at_ == 13), V.bl (r.at_ == 14), V.bl (r.at_ == 15), V.bl (r.at_ == 16)] ++ [V.bl (r.at_ == 17), V.bl (r.at_ == 18), V.bl (r.at_ == 19)])) = M5 at x5 y5 ⊢
    replace x5 : M5 c5 = some (HO.lst [V.bl (r.at_ == 2), V.bl (r.at_ == 3), V.bl (r.at_ == 4), V.bl (r.at_ == 5), V.bl (r.at_ == 6), V.bl (r.at_ == 7), V.bl (r.at_ == 8), V.bl (r.at_ == 9), V.bl (r.at_ == 10), V.bl (r.at_ == 11), V.bl (r.at_ == 12), V.bl (r.at_ == 13), V.bl (r.at_ == 14), V.bl (r.at_ == 15), V.bl (r.at_ == 16), V.bl (r.at_ == 17), V.bl (r.at_ == 18), V.bl (r.at_ == 19)]) := x5
    replace he := he.same y5
    replace t0 := t0.trans y5
    walk_at "rd"
    refine rd_is R he (fun x hx => hx) (show PySem.W.kitOne K (.ref (He.ga K r.name)) (.ref (He.ga K "InvalidText")) = some (r.at_ == 20) from kt.one r hr ⟨"InvalidText", 20, 0, ["line"]⟩ (List.mem_of_getElem? (i := 18) rfl)) ?_
    walk_at "rd"
    refine rd_is R he (fun x hx => hx) (show PySem.W.kitOne K (.ref (He.ga K r.name)) (.ref (He.ga K "InvalidClaim")) = some (r.at_ == 21) from kt.one r hr ⟨"InvalidClaim", 21, 0, ["value"]⟩ (List.mem_of_getElem? (i := 19) rfl)) ?_
    walk_at "rd"
    refine rd_is R he (fun x hx => hx) (show PySem.W.kitOne K (.ref (He.ga K r.name)) (.ref (He.ga K "InvalidCommand")) = some (r.at_ == 22) from kt.one r hr ⟨"InvalidCommand", 22, 0, ["value"]⟩ (List.mem_of_getElem? (i := 20) rfl)) ?_
    walk_at "rd"
    refine ⟨Rd.small (by show 3 ≤ 100000; decide), fun l6 h6 => ?_⟩
    have o6 := upd_same (H := M5) (a := l6) (o := HO.lst [V.bl (r.at_ == 20), V.bl (r.at_ == 21), V.bl (r.at_ == 22)])
    have z6 := same_new (o := HO.lst [V.bl (r.at_ == 20), V.bl (r.at_ == 21), V.bl (r.at_ == 22)]) h6
    generalize upd M5 l6 (HO.lst [V.bl (r.at_ == 20), V.bl (r.at_ == 21), V.bl (r.at_ == 22)]) = N6 at o6 z6 ⊢
    replace he := he.same z6
    replace t0 := t0.trans z6
    replace x5 := z6 _ _ x5
    walk_at "rd"
    refine ⟨_, _, _, _, rfl, rfl, x5, o6, Rd.small (by show 21 ≤ 100000; decide), fun c6 k6 => ?_⟩
    have x6 := upd_same (H := N6) (a := c6) (o := HO.lst ([V.bl (r.at_ == 2), V.bl (r.at_ == 3), V.bl (r.at_ == 4), V.bl (r.at_ == 5), V.bl (r.at_ == 6), V.bl (r.at_ == 7), V.bl (r.at_ == 8), V.bl (r.at_ == 9), V.bl (r.at_ == 10), V.bl (r.at_ == 11), V.bl (r.at_ == 12), V.bl (r.at_ == 13), V.bl (r.at_ == 14), V.bl (r.at_ == 15), V.bl (r.at_ == 16), V.bl (r.at_ == 17), V.bl (r.at_ == 18), V.bl (r.at_ == 19)] ++ [V.bl (r.at_ == 20), V.bl (r.at_ == 21), V.bl (r.at_ == 22)]))
    have y6 := same_new (o := HO.lst ([V.bl (r.at_ == 2), V.bl (r.at_ == 3), V.bl (r.at_ == 4), V.bl (r.at_ == 5), V.bl (r.at_ == 6), V.bl (r.at_ == 7), V.bl (r.at_ == 8), V.bl (r.at_ == 9), V.bl (r.at_ == 10), V.bl (r.at_ == 11), V.bl (r.at_ == 12), V.bl (r.at_ == 13), V.bl (r.at_ == 14), V.bl (r.at_ == 15), V.bl (r.at_ == 16), V.bl (r.at_ == 17), V.bl (r.at_ == 18), V.bl (r.at_ == 19)] ++ [V.bl (r.at_ == 20), V.bl (r.at_ == 21), V.bl (r.at_ == 22)])) k6
    generalize upd N6 c6 (HO.lst ([V.bl (r.at_ == 2), V.bl (r.at_ == 3), V.bl (r.at_ == 4), V.bl (r.at_ == 5), V.bl (r.at_ == 6), V.bl (r.at_ == 7), V.bl (r.at_ == 8), V.bl (r.at_ == 9), V.bl (r.at_ == 10), V.bl (r.at_ == 11), V.bl (r.at_ == 12), V.bl (r.at_ == 13), V.bl (r.at_ == 14), V.bl (r.at_ == 15), V.bl (r.at_ == 16), V.bl (r.at_ == 17), V.bl (r.at_ == 18), V.bl (r.at_ == 19)] ++ [V.bl (r.at_ == 20), V.bl (r.at_ == 21), V.bl (r.at_ == 22)])) = M6 at x6 y6 ⊢
    replace x6 : M6 c6 = some (HO.lst [V.bl (r.at_ == 2), V.bl (r.at_ == 3), V.bl (r.at_ == 4), V.bl (r.at_ == 5), V.bl (r.at_ == 6), V.bl (r.at_ == 7), V.bl (r.at_ == 8), V.bl (r.at_ == 9), V.bl (r.at_ == 10), V.bl (r.at_ == 11), V.bl (r.at_ == 12), V.bl (r.at_ == 13), V.bl (r.at_ == 14), V.bl (r.at_ == 15), V.bl (r.at_ == 16), V.bl (r.at_ == 17), V.bl (r.at_ == 18), V.bl (r.at_ == 19), V.bl (r.at_ == 20), V.bl (r.at_ == 21), V.bl (r.at_ == 22)]) := x6
    replace he := he.same y6
    replace t0 := t0.trans y6
    walk_at "rd"
    refine rd_is R he (fun x hx => hx) (show PySem.W.kitOne K (.ref (He.ga K r.name)) (.ref (He.ga K "UnknownColumn")) = some (r.at_ == 24) from kt.one r hr ⟨"UnknownColumn", 24, 1, ["value"]⟩ (List.mem_of_getElem? (i := 21) rfl)) ?_
    walk_at "rd"
    refine rd_is R he (fun x hx => hx) (show PySem.W.kitOne K (.ref (He.ga K r.name)) (.ref (He.ga K "UnknownKind")) = some (r.at_ == 25) from kt.one r hr ⟨"UnknownKind", 25, 1, ["value"]⟩ (List.mem_of_getElem? (i := 22) rfl)) ?_
    walk_at "rd"
    refine rd_is R he (fun x hx => hx) (show PySem.W.kitOne K (.ref (He.ga K r.name)) (.ref (He.ga K "UnknownPlace")) = some (r.at_ == 26) from kt.one r hr ⟨"UnknownPlace", 26, 1, ["value"]⟩ (List.mem_of_getElem? (i := 23) rfl)) ?_
    walk_at "rd"
    refine ⟨Rd.small (by show 3 ≤ 100000; decide), fun l7 h7 => ?_⟩
    have o7 := upd_same (H := M6) (a := l7) (o := HO.lst [V.bl (r.at_ == 24), V.bl (r.at_ == 25), V.bl (r.at_ == 26)])
    have z7 := same_new (o := HO.lst [V.bl (r.at_ == 24), V.bl (r.at_ == 25), V.bl (r.at_ == 26)]) h7
    generalize upd M6 l7 (HO.lst [V.bl (r.at_ == 24), V.bl (r.at_ == 25), V.bl (r.at_ == 26)]) = N7 at o7 z7 ⊢
    replace he := he.same z7
    replace t0 := t0.trans z7
    replace x6 := z7 _ _ x6
    walk_at "rd"
    refine ⟨_, _, _, _, rfl, rfl, x6, o7, Rd.small (by show 24 ≤ 100000; decide), fun c7 k7 => ?_⟩
    have x7 := upd_same (H := N7) (a := c7) (o := HO.lst ([V.bl (r.at_ == 2), V.bl (r.at_ == 3), V.bl (r.at_ == 4), V.bl (r.at_ == 5), V.bl (r.at_ == 6), V.bl (r.at_ == 7), V.bl (r.at_ == 8), V.bl (r.at_ == 9), V.bl (r.at_ == 10), V.bl (r.at_ == 11), V.bl (r.at_ == 12), V.bl (r.at_ == 13), V.bl (r.at_ == 14), V.bl (r.at_ == 15), V.bl (r.at_ == 16), V.bl (r.at_ == 17), V.bl (r.at_ == 18), V.bl (r.at_ == 19), V.bl (r.at_ == 20), V.bl (r.at_ == 21), V.bl (r.at_ == 22)] ++ [V.bl (r.at_ == 24), V.bl (r.at_ == 25), V.bl (r.at_ == 26)]))
    have y7 := same_new (o := HO.lst ([V.bl (r.at_ == 2), V.bl (r.at_ == 3), V.bl (r.at_ == 4), V.bl (r.at_ == 5), V.bl (r.at_ == 6), V.bl (r.at_ == 7), V.bl (r.at_ == 8), V.bl (r.at_ == 9), V.bl (r.at_ == 10), V.bl (r.at_ == 11), V.bl (r.at_ == 12), V.bl (r.at_ == 13), V.bl (r.at_ == 14), V.bl (r.at_ == 15), V.bl (r.at_ == 16), V.bl (r.at_ == 17), V.bl (r.at_ == 18), V.bl (r.at_ == 19), V.bl (r.at_ == 20), V.bl (r.at_ == 21), V.bl (r.at_ == 22)] ++ [V.bl (r.at_ == 24), V.bl (r.at_ == 25), V.bl (r.at_ == 26)])) k7
    generalize upd N7 c7 (HO.lst ([V.bl (r.at_ == 2), V.bl (r.at_ == 3), V.bl (r.at_ == 4), V.bl (r.at_ == 5), V.bl (r.at_ == 6), V.bl (r.at_ == 7), V.bl (r.at_ == 8), V.bl (r.at_ == 9), V.bl (r.at_ == 10), V.bl (r.at_ == 11), V.bl (r.at_ == 12), V.bl (r.at_ == 13), V.bl (r.at_ == 14), V.bl (r.at_ == 15), V.bl (r.at_ == 16), V.bl (r.at_ == 17), V.bl (r.at_ == 18), V.bl (r.at_ == 19), V.bl (r.at_ == 20), V.bl (r.at_ == 21), V.bl (r.at_ == 22)] ++ [V.bl (r.at_ == 24), V.bl (r.at_ == 25), V.bl (r.at_ == 26)])) = M7 at x7 y7 ⊢
    replace x7 : M7 c7 = some (HO.lst [V.bl (r.at_ == 2), V.bl (r.at_ == 3), V.bl (r.at_ == 4), V.bl (r.at_ == 5), V.bl (r.at_ == 6), V.bl (r.at_ == 7), V.bl (r.at_ == 8), V.bl (r.at_ == 9), V.bl (r.at_ == 10), V.bl (r.at_ == 11), V.bl (r.at_ == 12), V.bl (r.at_ == 13), V.bl (r.at_ == 14), V.bl (r.at_ == 15), V.bl (r.at_ == 16), V.bl (r.at_ == 17), V.bl (r.at_ == 18), V.bl (r.at_ == 19), V.bl (r.at_ == 20), V.bl (r.at_ == 21), V.bl (r.at_ == 22), V.bl (r.at_ == 24), V.bl (r.at_ == 25), V.bl (r.at_ == 26)]) := x7
    replace he := he.same y7
    replace t0 := t0.trans y7
    walk_at "rd"
    refine rd_is R he (fun x hx => hx) (show PySem.W.kitOne K (.ref (He.ga K r.name)) (.ref (He.ga K "UnknownName")) = some (r.at_ == 27) from kt.one r hr ⟨"UnknownName", 27, 1, ["value"]⟩ (List.mem_of_getElem? (i := 24) rfl)) ?_
    walk_at "rd"
    refine rd_is R he (fun x hx => hx) (show PySem.W.kitOne K (.ref (He.ga K r.name)) (.ref (He.ga K "NotAllowed")) = some (r.at_ == 29) from kt.one r hr ⟨"NotAllowed", 29, 2, ["row"]⟩ (List.mem_of_getElem? (i := 25) rfl)) ?_
    walk_at "rd"
    refine rd_is R he (fun x hx => hx) (show PySem.W.kitOne K (.ref (He.ga K r.name)) (.ref (He.ga K "NotFull")) = some (r.at_ == 30) from kt.one r hr ⟨"NotFull", 30, 2, ["column"]⟩ (List.mem_of_getElem? (i := 26) rfl)) ?_
    walk_at "rd"
    refine ⟨Rd.small (by show 3 ≤ 100000; decide), fun l8 h8 => ?_⟩
    have o8 := upd_same (H := M7) (a := l8) (o := HO.lst [V.bl (r.at_ == 27), V.bl (r.at_ == 29), V.bl (r.at_ == 30)])
    have z8 := same_new (o := HO.lst [V.bl (r.at_ == 27), V.bl (r.at_ == 29), V.bl (r.at_ == 30)]) h8
    generalize upd M7 l8 (HO.lst [V.bl (r.at_ == 27), V.bl (r.at_ == 29), V.bl (r.at_ == 30)]) = N8 at o8 z8 ⊢
    replace he := he.same z8
    replace t0 := t0.trans z8
    replace x7 := z8 _ _ x7
    walk_at "rd"
    refine ⟨_, _, _, _, rfl, rfl, x7, o8, Rd.small (by show 27 ≤ 100000; decide), fun c8 k8 => ?_⟩
    have x8 := upd_same (H := N8) (a := c8) (o := HO.lst ([V.bl (r.at_ == 2), V.bl (r.at_ == 3), V.bl (r.at_ == 4), V.bl (r.at_ == 5), V.bl (r.at_ == 6), V.bl (r.at_ == 7), V.bl (r.at_ == 8), V.bl (r.at_ == 9), V.bl (r.at_ == 10), V.bl (r.at_ == 11), V.bl (r.at_ == 12), V.bl (r.at_ == 13), V.bl (r.at_ == 14), V.bl (r.at_ == 15), V.bl (r.at_ == 16), V.bl (r.at_ == 17), V.bl (r.at_ == 18), V.bl (r.at_ == 19), V.bl (r.at_ == 20), V.bl (r.at_ == 21), V.bl (r.at_ == 22), V.bl (r.at_ == 24), V.bl (r.at_ == 25), V.bl (r.at_ == 26)] ++ [V.bl (r.at_ == 27), V.bl (r.at_ == 29), V.bl (r.at_ == 30)]))
    have y8 := same_new (o := HO.lst ([V.bl (r.at_ == 2), V.bl (r.at_ == 3), V.bl (r.at_ == 4), V.bl (r.at_ == 5), V.bl (r.at_ == 6), V.bl (r.at_ == 7), V.bl (r.at_ == 8), V.bl (r.at_ == 9), V.bl (r.at_ == 10), V.bl (r.at_ == 11), V.bl (r.at_ == 12), V.bl (r.at_ == 13), V.bl (r.at_ == 14), V.bl (r.at_ == 15), V.bl (r.at_ == 16), V.bl (r.at_ == 17), V.bl (r.at_ == 18), V.bl (r.at_ == 19), V.bl (r.at_ == 20), V.bl (r.at_ == 21), V.bl (r.at_ == 22), V.bl (r.at_ == 24), V.bl (r.at_ == 25), V.bl (r.at_ == 26)] ++ [V.bl (r.at_ == 27), V.bl (r.at_ == 29), V.bl (r.at_ == 30)])) k8
    generalize upd N8 c8 (HO.lst ([V.bl (r.at_ == 2), V.bl (r.at_ == 3), V.bl (r.at_ == 4), V.bl (r.at_ == 5), V.bl (r.at_ == 6), V.bl (r.at_ == 7), V.bl (r.at_ == 8), V.bl (r.at_ == 9), V.bl (r.at_ == 10), V.bl (r.at_ == 11), V.bl (r.at_ == 12), V.bl (r.at_ == 13), V.bl (r.at_ == 14), V.bl (r.at_ == 15), V.bl (r.at_ == 16), V.bl (r.at_ == 17), V.bl (r.at_ == 18), V.bl (r.at_ == 19), V.bl (r.at_ == 20), V.bl (r.at_ == 21), V.bl (r.at_ == 22), V.bl (r.at_ == 24), V.bl (r.at_ == 25), V.bl (r.at_ == 26)] ++ [V.bl (r.at_ == 27), V.bl (r.at_ == 29), V.bl (r.at_ == 30)])) = M8 at x8 y8 ⊢
    replace x8 : M8 c8 = some (HO.lst [V.bl (r.at_ == 2), V.bl (r.at_ == 3), V.bl (r.at_ == 4), V.bl (r.at_ == 5), V.bl (r.at_ == 6), V.bl (r.at_ == 7), V.bl (r.at_ == 8), V.bl (r.at_ == 9), V.bl (r.at_ == 10), V.bl (r.at_ == 11), V.bl (r.at_ == 12), V.bl (r.at_ == 13), V.bl (r.at_ == 14), V.bl (r.at_ == 15), V.bl (r.at_ == 16), V.bl (r.at_ == 17), V.bl (r.at_ == 18), V.bl (r.at_ == 19), V.bl (r.at_ == 20), V.bl (r.at_ == 21), V.bl (r.at_ == 22), V.bl (r.at_ == 24), V.bl (r.at_ == 25), V.bl (r.at_ == 26), V.bl (r.at_ == 27), V.bl (r.at_ == 29), V.bl (r.at_ == 30)]) := x8
    replace he := he.same y8
    replace t0 := t0.trans y8
    walk_at "rd"
    refine rd_is R he (fun x hx => hx) (show PySem.W.kitOne K (.ref (He.ga K r.name)) (.ref (He.ga K "OtherPlan")) = some (r.at_ == 31) from kt.one r hr ⟨"OtherPlan", 31, 2, []⟩ (List.mem_of_getElem? (i := 27) rfl)) ?_
    walk_at "rd"
    refine rd_is R he (fun x hx => hx) (show PySem.W.kitOne K (.ref (He.ga K r.name)) (.ref (He.ga K "NotTurning")) = some (r.at_ == 32) from kt.one r hr ⟨"NotTurning", 32, 2, ["place"]⟩ (List.mem_of_getElem? (i := 28) rfl)) ?_
    walk_at "rd"
    refine rd_is R he (fun x hx => hx) (show PySem.W.kitOne K (.ref (He.ga K r.name)) (.ref (He.ga K "NameTaken")) = some (r.at_ == 33) from kt.one r hr ⟨"NameTaken", 33, 2, ["name"]⟩ (List.mem_of_getElem? (i := 29) rfl)) ?_
    walk_at "rd"
    refine ⟨Rd.small (by show 3 ≤ 100000; decide), fun l9 h9 => ?_⟩
    have o9 := upd_same (H := M8) (a := l9) (o := HO.lst [V.bl (r.at_ == 31), V.bl (r.at_ == 32), V.bl (r.at_ == 33)])
    have z9 := same_new (o := HO.lst [V.bl (r.at_ == 31), V.bl (r.at_ == 32), V.bl (r.at_ == 33)]) h9
    generalize upd M8 l9 (HO.lst [V.bl (r.at_ == 31), V.bl (r.at_ == 32), V.bl (r.at_ == 33)]) = N9 at o9 z9 ⊢
    replace he := he.same z9
    replace t0 := t0.trans z9
    replace x8 := z9 _ _ x8
    walk_at "rd"
    refine ⟨_, _, _, _, rfl, rfl, x8, o9, Rd.small (by show 30 ≤ 100000; decide), fun c9 k9 => ?_⟩
    have x9 := upd_same (H := N9) (a := c9) (o := HO.lst ([V.bl (r.at_ == 2), V.bl (r.at_ == 3), V.bl (r.at_ == 4), V.bl (r.at_ == 5), V.bl (r.at_ == 6), V.bl (r.at_ == 7), V.bl (r.at_ == 8), V.bl (r.at_ == 9), V.bl (r.at_ == 10), V.bl (r.at_ == 11), V.bl (r.at_ == 12), V.bl (r.at_ == 13), V.bl (r.at_ == 14), V.bl (r.at_ == 15), V.bl (r.at_ == 16), V.bl (r.at_ == 17), V.bl (r.at_ == 18), V.bl (r.at_ == 19), V.bl (r.at_ == 20), V.bl (r.at_ == 21), V.bl (r.at_ == 22), V.bl (r.at_ == 24), V.bl (r.at_ == 25), V.bl (r.at_ == 26), V.bl (r.at_ == 27), V.bl (r.at_ == 29), V.bl (r.at_ == 30)] ++ [V.bl (r.at_ == 31), V.bl (r.at_ == 32), V.bl (r.at_ == 33)]))
    have y9 := same_new (o := HO.lst ([V.bl (r.at_ == 2), V.bl (r.at_ == 3), V.bl (r.at_ == 4), V.bl (r.at_ == 5), V.bl (r.at_ == 6), V.bl (r.at_ == 7), V.bl (r.at_ == 8), V.bl (r.at_ == 9), V.bl (r.at_ == 10), V.bl (r.at_ == 11), V.bl (r.at_ == 12), V.bl (r.at_ == 13), V.bl (r.at_ == 14), V.bl (r.at_ == 15), V.bl (r.at_ == 16), V.bl (r.at_ == 17), V.bl (r.at_ == 18), V.bl (r.at_ == 19), V.bl (r.at_ == 20), V.bl (r.at_ == 21), V.bl (r.at_ == 22), V.bl (r.at_ == 24), V.bl (r.at_ == 25), V.bl (r.at_ == 26), V.bl (r.at_ == 27), V.bl (r.at_ == 29), V.bl (r.at_ == 30)] ++ [V.bl (r.at_ == 31), V.bl (r.at_ == 32), V.bl (r.at_ == 33)])) k9
    generalize upd N9 c9 (HO.lst ([V.bl (r.at_ == 2), V.bl (r.at_ == 3), V.bl (r.at_ == 4), V.bl (r.at_ == 5), V.bl (r.at_ == 6), V.bl (r.at_ == 7), V.bl (r.at_ == 8), V.bl (r.at_ == 9), V.bl (r.at_ == 10), V.bl (r.at_ == 11), V.bl (r.at_ == 12), V.bl (r.at_ == 13), V.bl (r.at_ == 14), V.bl (r.at_ == 15), V.bl (r.at_ == 16), V.bl (r.at_ == 17), V.bl (r.at_ == 18), V.bl (r.at_ == 19), V.bl (r.at_ == 20), V.bl (r.at_ == 21), V.bl (r.at_ == 22), V.bl (r.at_ == 24), V.bl (r.at_ == 25), V.bl (r.at_ == 26), V.bl (r.at_ == 27), V.bl (r.at_ == 29), V.bl (r.at_ == 30)] ++ [V.bl (r.at_ == 31), V.bl (r.at_ == 32), V.bl (r.at_ == 33)])) = M9 at x9 y9 ⊢
    replace x9 : M9 c9 = some (HO.lst [V.bl (r.at_ == 2), V.bl (r.at_ == 3), V.bl (r.at_ == 4), V.bl (r.at_ == 5), V.bl (r.at_ == 6), V.bl (r.at_ == 7), V.bl (r.at_ == 8), V.bl (r.at_ == 9), V.bl (r.at_ == 10), V.bl (r.at_ == 11), V.bl (r.at_ == 12), V.bl (r.at_ == 13), V.bl (r.at_ == 14), V.bl (r.at_ == 15), V.bl (r.at_ == 16), V.bl (r.at_ == 17), V.bl (r.at_ == 18), V.bl (r.at_ == 19), V.bl (r.at_ == 20), V.bl (r.at_ == 21), V.bl (r.at_ == 22), V.bl (r.at_ == 24), V.bl (r.at_ == 25), V.bl (r.at_ == 26), V.bl (r.at_ == 27), V.bl (r.at_ == 29), V.bl (r.at_ == 30), V.bl (r.at_ == 31), V.bl (r.at_ == 32), V.bl (r.at_ == 33)]) := x9
    replace he := he.same y9
    replace t0 := t0.trans y9
    walk_at "rd"
    refine rd_is R he (fun x hx => hx) (show PySem.W.kitOne K (.ref (He.ga K r.name)) (.ref (He.ga K "NothingToUndo")) = some (r.at_ == 34) from kt.one r hr ⟨"NothingToUndo", 34, 2, []⟩ (List.mem_of_getElem? (i := 30) rfl)) ?_
    walk_at "rd"
    refine rd_is R he (fun x hx => hx) (show PySem.W.kitOne K (.ref (He.ga K r.name)) (.ref (He.ga K "TooMany")) = some (r.at_ == 36) from kt.one r hr ⟨"TooMany", 36, 3, ["what", "limit"]⟩ (List.mem_of_getElem? (i := 31) rfl)) ?_
    walk_at "rd"
    refine ⟨Rd.small (by show 2 ≤ 100000; decide), fun l10 h10 => ?_⟩
    have o10 := upd_same (H := M9) (a := l10) (o := HO.lst [V.bl (r.at_ == 34), V.bl (r.at_ == 36)])
    have z10 := same_new (o := HO.lst [V.bl (r.at_ == 34), V.bl (r.at_ == 36)]) h10
    generalize upd M9 l10 (HO.lst [V.bl (r.at_ == 34), V.bl (r.at_ == 36)]) = N10 at o10 z10 ⊢
    replace he := he.same z10
    replace t0 := t0.trans z10
    replace x9 := z10 _ _ x9
    walk_at "rd"
    refine ⟨_, _, _, _, rfl, rfl, x9, o10, Rd.small (by show 32 ≤ 100000; decide), fun c10 k10 => ?_⟩
    have x10 := upd_same (H := N10) (a := c10) (o := HO.lst ([V.bl (r.at_ == 2), V.bl (r.at_ == 3), V.bl (r.at_ == 4), V.bl (r.at_ == 5), V.bl (r.at_ == 6), V.bl (r.at_ == 7), V.bl (r.at_ == 8), V.bl (r.at_ == 9), V.bl (r.at_ == 10), V.bl (r.at_ == 11), V.bl (r.at_ == 12), V.bl (r.at_ == 13), V.bl (r.at_ == 14), V.bl (r.at_ == 15), V.bl (r.at_ == 16), V.bl (r.at_ == 17), V.bl (r.at_ == 18), V.bl (r.at_ == 19), V.bl (r.at_ == 20), V.bl (r.at_ == 21), V.bl (r.at_ == 22), V.bl (r.at_ == 24), V.bl (r.at_ == 25), V.bl (r.at_ == 26), V.bl (r.at_ == 27), V.bl (r.at_ == 29), V.bl (r.at_ == 30), V.bl (r.at_ == 31), V.bl (r.at_ == 32), V.bl (r.at_ == 33)] ++ [V.bl (r.at_ == 34), V.bl (r.at_ == 36)]))
    have y10 := same_new (o := HO.lst ([V.bl (r.at_ == 2), V.bl (r.at_ == 3), V.bl (r.at_ == 4), V.bl (r.at_ == 5), V.bl (r.at_ == 6), V.bl (r.at_ == 7), V.bl (r.at_ == 8), V.bl (r.at_ == 9), V.bl (r.at_ == 10), V.bl (r.at_ == 11), V.bl (r.at_ == 12), V.bl (r.at_ == 13), V.bl (r.at_ == 14), V.bl (r.at_ == 15), V.bl (r.at_ == 16), V.bl (r.at_ == 17), V.bl (r.at_ == 18), V.bl (r.at_ == 19), V.bl (r.at_ == 20), V.bl (r.at_ == 21), V.bl (r.at_ == 22), V.bl (r.at_ == 24), V.bl (r.at_ == 25), V.bl (r.at_ == 26), V.bl (r.at_ == 27), V.bl (r.at_ == 29), V.bl (r.at_ == 30), V.bl (r.at_ == 31), V.bl (r.at_ == 32), V.bl (r.at_ == 33)] ++ [V.bl (r.at_ == 34), V.bl (r.at_ == 36)])) k10
    generalize upd N10 c10 (HO.lst ([V.bl (r.at_ == 2), V.bl (r.at_ == 3), V.bl (r.at_ == 4), V.bl (r.at_ == 5), V.bl (r.at_ == 6), V.bl (r.at_ == 7), V.bl (r.at_ == 8), V.bl (r.at_ == 9), V.bl (r.at_ == 10), V.bl (r.at_ == 11), V.bl (r.at_ == 12), V.bl (r.at_ == 13), V.bl (r.at_ == 14), V.bl (r.at_ == 15), V.bl (r.at_ == 16), V.bl (r.at_ == 17), V.bl (r.at_ == 18), V.bl (r.at_ == 19), V.bl (r.at_ == 20), V.bl (r.at_ == 21), V.bl (r.at_ == 22), V.bl (r.at_ == 24), V.bl (r.at_ == 25), V.bl (r.at_ == 26), V.bl (r.at_ == 27), V.bl (r.at_ == 29), V.bl (r.at_ == 30), V.bl (r.at_ == 31), V.bl (r.at_ == 32), V.bl (r.at_ == 33)] ++ [V.bl (r.at_ == 34), V.bl (r.at_ == 36)])) = M10 at x10 y10 ⊢
    replace x10 : M10 c10 = some (HO.lst [V.bl (r.at_ == 2), V.bl (r.at_ == 3), V.bl (r.at_ == 4), V.bl (r.at_ == 5), V.bl (r.at_ == 6), V.bl (r.at_ == 7), V.bl (r.at_ == 8), V.bl (r.at_ == 9), V.bl (r.at_ == 10), V.bl (r.at_ == 11), V.bl (r.at_ == 12), V.bl (r.at_ == 13), V.bl (r.at_ == 14), V.bl (r.at_ == 15), V.bl (r.at_ == 16), V.bl (r.at_ == 17), V.bl (r.at_ == 18), V.bl (r.at_ == 19), V.bl (r.at_ == 20), V.bl (r.at_ == 21), V.bl (r.at_ == 22), V.bl (r.at_ == 24), V.bl (r.at_ == 25), V.bl (r.at_ == 26), V.bl (r.at_ == 27), V.bl (r.at_ == 29), V.bl (r.at_ == 30), V.bl (r.at_ == 31), V.bl (r.at_ == 32), V.bl (r.at_ == 33), V.bl (r.at_ == 34), V.bl (r.at_ == 36)]) := x10
    replace he := he.same y10
    replace t0 := t0.trans y10
    walk_at "rd"
    exact q _ _ t0 x10
theorem sc_bas : FnScope ["_law_one", "_law_found"] ["_law_one"] (defScope sBas) := ⟨rfl, rfl, rfl, by decide +kernel, rfl, by decide +kernel, by decide +kernel⟩
theorem ok_bas (F : FnP K "_law_bases" sBas f fd) (T : Cl K mg) (kt : Kit K mg) (gIs : mg "isinstance" = none) (gValueError : mg "ValueError" = none) (gLookupError : mg "LookupError" = none) (gRuntimeError : mg "RuntimeError" = none) (gArithmeticError : mg "ArithmeticError" = none) : FnOk P w K mg base CX0 1 f fd ["_law_one"] (spCls K basL) := by
  refine F.ok sc_bas (fun vs H Q E h => ?_) (fun cdv A outer s H vs Q E hr h => ?_)
  · obtain ⟨a, r, v, u, rfl, _⟩ := h
    rfl
  · obtain ⟨a, r, v, u, rfl, hr, he, q⟩ := h
    have R := T.row r hr
    refine ⟨_, PSs.nox (pss_cons (ps_set (i := 1) sc_bas.nd rfl (Or.inl rfl) (pe_lst (pa_cons (pe_callB call_isX rfl gIs boot_isinstance (pa_cons (pv 0) (pa_cons (pe_glob rfl (kt.gb 0 (by decide)) (v := .ref (He.ga K "SheetError")) rfl) pa_nil))) (pa_cons (pe_callB call_isX rfl gIs boot_isinstance (pa_cons (pv 0) (pa_cons (pe_glob rfl (kt.gb 1 (by decide)) (v := .ref (He.ga K "MissingError")) rfl) pa_nil))) (pa_cons (pe_callB call_isX rfl gIs boot_isinstance (pa_cons (pv 0) (pa_cons (pe_glob rfl (kt.gb 2 (by decide)) (v := .ref (He.ga K "StateError")) rfl) pa_nil))) pa_nil)))))
      (pss_cons (ps_set (i := 1) sc_bas.nd rfl (Or.inl rfl) (pe_op op_cat (pv 1) (pe_lst (pa_cons (pe_callB call_isX rfl gIs boot_isinstance (pa_cons (pv 0) (pa_cons (pe_glob rfl (kt.gb 3 (by decide)) (v := .ref (He.ga K "LimitError")) rfl) pa_nil))) (pa_cons (pe_callB call_isX rfl gIs boot_isinstance (pa_cons (pv 0) (pa_cons (pe_bltn rfl gValueError (by decide +kernel) (v := .ty "ValueError") rfl) pa_nil))) (pa_cons (pe_callB call_isX rfl gIs boot_isinstance (pa_cons (pv 0) (pa_cons (pe_bltn rfl gLookupError (by decide +kernel) (v := .ty "LookupError") rfl) pa_nil))) pa_nil))))))
      (pss_one (ps_ret (pe_op op_cat (pv 1) (pe_lst (pa_cons (pe_callB call_isX rfl gIs boot_isinstance (pa_cons (pv 0) (pa_cons (pe_bltn rfl gRuntimeError (by decide +kernel) (v := .ty "RuntimeError") rfl) pa_nil))) (pa_cons (pe_callB call_isX rfl gIs boot_isinstance (pa_cons (pv 0) (pa_cons (pe_bltn rfl gArithmeticError (by decide +kernel) (v := .ty "ArithmeticError") rfl) pa_nil))) pa_nil)))))))), ?_⟩
    have t0 : Same H H := Same.refl H
    walk_at "rd"
    refine rd_is R he (fun x hx => hx) (kt.own r hr 0 (by decide)) ?_
    walk_at "rd"
    refine rd_is R he (fun x hx => hx) (kt.own r hr 1 (by decide)) ?_
    walk_at "rd"
    refine rd_is R he (fun x hx => hx) (kt.own r hr 2 (by decide)) ?_
    walk_at "rd"
    refine ⟨Rd.small (by show 3 ≤ 100000; decide), fun l0 h0 => ?_⟩
    have o0 := upd_same (H := H) (a := l0) (o := HO.lst [V.bl (r.way == 0), V.bl (r.way == 1), V.bl (r.way == 2)])
    have z0 := same_new (o := HO.lst [V.bl (r.way == 0), V.bl (r.way == 1), V.bl (r.way == 2)]) h0
    generalize upd H l0 (HO.lst [V.bl (r.way == 0), V.bl (r.way == 1), V.bl (r.way == 2)]) = N0 at o0 z0 ⊢
    replace he := he.same z0
    replace t0 := t0.trans z0
    walk_at "rd"
    refine rd_is R he (fun x hx => hx) (kt.own r hr 3 (by decide)) ?_
    walk_at "rd"
    refine rd_is R he (fun x hx => hx) (kt.blt r hr 0 (by decide)) ?_
    walk_at "rd"
    refine rd_is R he (fun x hx => hx) (kt.blt r hr 1 (by decide)) ?_
    walk_at "rd"
    refine ⟨Rd.small (by show 3 ≤ 100000; decide), fun l1 h1 => ?_⟩
    have o1 := upd_same (H := N0) (a := l1) (o := HO.lst [V.bl (r.way == 3), V.bl (r.way == 0), V.bl (r.way == 1)])
    have z1 := same_new (o := HO.lst [V.bl (r.way == 3), V.bl (r.way == 0), V.bl (r.way == 1)]) h1
    generalize upd N0 l1 (HO.lst [V.bl (r.way == 3), V.bl (r.way == 0), V.bl (r.way == 1)]) = N1 at o1 z1 ⊢
    replace he := he.same z1
    replace t0 := t0.trans z1
    replace o0 := z1 _ _ o0
    walk_at "rd"
    refine ⟨_, _, _, _, rfl, rfl, o0, o1, Rd.small (by show 6 ≤ 100000; decide), fun c1 k1 => ?_⟩
    have x1 := upd_same (H := N1) (a := c1) (o := HO.lst ([V.bl (r.way == 0), V.bl (r.way == 1), V.bl (r.way == 2)] ++ [V.bl (r.way == 3), V.bl (r.way == 0), V.bl (r.way == 1)]))
    have y1 := same_new (o := HO.lst ([V.bl (r.way == 0), V.bl (r.way == 1), V.bl (r.way == 2)] ++ [V.bl (r.way == 3), V.bl (r.way == 0), V.bl (r.way == 1)])) k1
    generalize upd N1 c1 (HO.lst ([V.bl (r.way == 0), V.bl (r.way == 1), V.bl (r.way == 2)] ++ [V.bl (r.way == 3), V.bl (r.way == 0), V.bl (r.way == 1)])) = M1 at x1 y1 ⊢
    replace x1 : M1 c1 = some (HO.lst [V.bl (r.way == 0), V.bl (r.way == 1), V.bl (r.way == 2), V.bl (r.way == 3), V.bl (r.way == 0), V.bl (r.way == 1)]) := x1
    replace he := he.same y1
    replace t0 := t0.trans y1
    walk_at "rd"
    refine rd_is R he (fun x hx => hx) (kt.blt r hr 2 (by decide)) ?_
    walk_at "rd"
    refine rd_is R he (fun x hx => hx) (kt.blt r hr 3 (by decide)) ?_
    walk_at "rd"
    refine ⟨Rd.small (by show 2 ≤ 100000; decide), fun l2 h2 => ?_⟩
    have o2 := upd_same (H := M1) (a := l2) (o := HO.lst [V.bl (r.way == 2), V.bl (r.way == 3)])
    have z2 := same_new (o := HO.lst [V.bl (r.way == 2), V.bl (r.way == 3)]) h2
    generalize upd M1 l2 (HO.lst [V.bl (r.way == 2), V.bl (r.way == 3)]) = N2 at o2 z2 ⊢
    replace he := he.same z2
    replace t0 := t0.trans z2
    replace x1 := z2 _ _ x1
    walk_at "rd"
    refine ⟨_, _, _, _, rfl, rfl, x1, o2, Rd.small (by show 8 ≤ 100000; decide), fun c2 k2 => ?_⟩
    have x2 := upd_same (H := N2) (a := c2) (o := HO.lst ([V.bl (r.way == 0), V.bl (r.way == 1), V.bl (r.way == 2), V.bl (r.way == 3), V.bl (r.way == 0), V.bl (r.way == 1)] ++ [V.bl (r.way == 2), V.bl (r.way == 3)]))
    have y2 := same_new (o := HO.lst ([V.bl (r.way == 0), V.bl (r.way == 1), V.bl (r.way == 2), V.bl (r.way == 3), V.bl (r.way == 0), V.bl (r.way == 1)] ++ [V.bl (r.way == 2), V.bl (r.way == 3)])) k2
    generalize upd N2 c2 (HO.lst ([V.bl (r.way == 0), V.bl (r.way == 1), V.bl (r.way == 2), V.bl (r.way == 3), V.bl (r.way == 0), V.bl (r.way == 1)] ++ [V.bl (r.way == 2), V.bl (r.way == 3)])) = M2 at x2 y2 ⊢
    replace x2 : M2 c2 = some (HO.lst [V.bl (r.way == 0), V.bl (r.way == 1), V.bl (r.way == 2), V.bl (r.way == 3), V.bl (r.way == 0), V.bl (r.way == 1), V.bl (r.way == 2), V.bl (r.way == 3)]) := x2
    replace he := he.same y2
    replace t0 := t0.trans y2
    exact q _ _ t0 x2
end
end K15

namespace K15
open PySem PySem.Spec PyProof.Rows L2
def LcG (K : PySem.W.Frag) (a : Addr) (i : Nat) (ii : List Nat) (te : TE) (σ : L2.St) (H1 : Hp) (Q : VK) : Prop :=
  ∀ D, H1 D = none → ∃ W : Nat → Nat → Hp → Prop, (∃ m, W 0 m (upd H1 D (.lst []))) ∧ ∀ k m H, W k m H →
      ((Itl K a).stop k H ∧ Q (.ref D) H) ∨ ((Itl K a).go k H ∧ ∃ Nx : Hp → Prop, (∀ H', Nx H' → ∃ m', m' < m ∧ W (k + 1) m' H') ∧ ∀ x H', (Itl K a).yld k H x H' → gName i x (wipe σ ii) H' fun σ2 H2 => wipe σ2 ii = wipe σ ii ∧ tYes σ2 H2 fun b H3 =>
        if b = true then te σ2 H3 (fun y H4 => ∃ acc, H4 D = some (.lst acc) ∧ acc.length < sizeLine ∧ Nx (upd H4 D (.lst (acc ++ [y])))) else Nx H3)
theorem lcQ {K : PySem.W.Frag} {tl te : TE} {i : Nat} {ii : List Nat} {σ : L2.St} {H : Hp} {Q : VK} (h : tl σ H fun x H1 => ∃ a, x = .ref a ∧ (∃ xs, SqL K H1 a xs) ∧ LcG K a i ii te σ H1 Q) : tLc (iList K tl) (gName i) tYes te ii σ H Q := h
theorem lcR {K : PySem.W.Frag} {a : Addr} {xs : List V} {i : Nat} {ii : List Nat} {te : TE} {σ : L2.St} {H1 : Hp} {Q : VK} (ys : Nat → V) (hS : SqL K H1 a xs) (hi : ii = [i]) (hl : xs.length ≤ 100000)
    (ht : ∀ k x, xs[k]? = some x → ∀ (H2 : Hp) (Q' : VK), Same H1 H2 → Q' (ys k) H2 → te ((wipe σ [i]).set i (some x)) H2 Q') (q : ∀ D H2, Same H1 H2 → H2 D = some (.lst ((List.range xs.length).map ys)) → Q (.ref D) H2) : LcG K a i ii te σ H1 Q := by
  subst hi
  exact lcP ys hS hl ht q
local macro_rules | `(tactic| walk_at "rd1") => `(tactic| first
  | (with_reducible refine Rd.seq ?_) | (with_reducible refine Rd.asg ?_) | (with_reducible refine Rd.ret ?_) | (with_reducible refine Rd.nxt ?_) | (with_reducible refine Rd.ifS ?_)
  | (with_reducible refine Rd.op ?_) | (with_reducible refine Rd.un ?_) | (with_reducible refine Rd.cb ?_) | (with_reducible refine Rd.cons ?_) | (with_reducible refine Rd.nil ?_) | (with_reducible refine Rd.ifx ?_)
  | (with_reducible refine Rd.test ?_) | (with_reducible refine Rd.testB ?_) | (with_reducible refine Rd.notT ?_) | (with_reducible refine Rd.isB ?_) | (with_reducible refine Rd.lst ?_) | (with_reducible refine Rd.tup ?_)
  | (with_reducible refine Rd.call ?_) | (with_reducible refine lcQ ?_) | (with_reducible refine Rd.asgG ?_) | (with_reducible refine Rd.gNm ?_) | (with_reducible refine Rd.gSb ?_) | (with_reducible refine Rd.gC ?_) | (with_reducible refine Rd.gN ?_)
  | ((with_reducible refine' Rd.var ?hv ?_); (case hv => exact rfl)) | (with_reducible refine Rd.c ?_) | (with_reducible refine Rd.i0 ?_) | (with_reducible refine Rd.neg ?_)
  | ((with_reducible refine' Rd.iC ?hc ?_); (case hc => first | (show (0 : Int) < _; decide) | exact ⟨by decide, by decide⟩ | exact ⟨by decide, by decide, by decide⟩ | exact .inl ⟨by decide, by decide⟩ | exact .inr ⟨by decide, by decide⟩ | exact .inl ⟨by omega, by omega⟩ | (show (0 : Int) < _; omega) | exact ⟨by omega, by omega⟩))
  | ((with_reducible refine' Rd.eqS ?hc ?_); (case hc => rfl)) | ((with_reducible refine' Rd.neS ?hc ?_); (case hc => rfl)))
local macro_rules | `(tactic| walk_at "rd") => `(tactic| repeat walk_at "rd1")

section
variable {P : Program} {w : World} {K : PySem.W.Frag} {mg : Str → Option Value} {base : Heap} {f : Addr} {fd : FuncData}
theorem sc_held : FnScope ["_law_some", "_law_numbers", "_law_found", "_law_k"] ["_law_some"] (defScope sHeld) := ⟨rfl, rfl, rfl, by decide +kernel, rfl, by decide +kernel, by decide +kernel⟩
theorem ok_held (F : FnP K "_law_held" sHeld f fd) (T : Cl K mg) : FnOk P w K mg base CX0 1 f fd ["_law_some"] (spHeld K) := by
  have r0 : RowOk K mg ⟨"InvalidNumber", 2, 0, ["value"]⟩ := T.row _ (List.mem_of_getElem? (i := 0) rfl)
  have r1 : RowOk K mg ⟨"InvalidName", 3, 0, ["value"]⟩ := T.row _ (List.mem_of_getElem? (i := 1) rfl)
  have r2 : RowOk K mg ⟨"InvalidFormula", 4, 0, ["value"]⟩ := T.row _ (List.mem_of_getElem? (i := 2) rfl)
  have r3 : RowOk K mg ⟨"InvalidChosen", 5, 0, ["value"]⟩ := T.row _ (List.mem_of_getElem? (i := 3) rfl)
  have r4 : RowOk K mg ⟨"InvalidWhere", 6, 0, ["value"]⟩ := T.row _ (List.mem_of_getElem? (i := 4) rfl)
  have r5 : RowOk K mg ⟨"InvalidPosition", 7, 0, ["value"]⟩ := T.row _ (List.mem_of_getElem? (i := 5) rfl)
  have r6 : RowOk K mg ⟨"InvalidColumns", 8, 0, ["position"]⟩ := T.row _ (List.mem_of_getElem? (i := 6) rfl)
  have r7 : RowOk K mg ⟨"InvalidTop", 9, 0, ["column"]⟩ := T.row _ (List.mem_of_getElem? (i := 7) rfl)
  have r8 : RowOk K mg ⟨"InvalidKinds", 10, 0, ["kind", "column"]⟩ := T.row _ (List.mem_of_getElem? (i := 8) rfl)
  have r9 : RowOk K mg ⟨"InvalidPlan", 11, 0, ["place"]⟩ := T.row _ (List.mem_of_getElem? (i := 9) rfl)
  have r10 : RowOk K mg ⟨"InvalidWord", 12, 0, ["position"]⟩ := T.row _ (List.mem_of_getElem? (i := 10) rfl)
  have r11 : RowOk K mg ⟨"InvalidFill", 13, 0, ["part", "position"]⟩ := T.row _ (List.mem_of_getElem? (i := 11) rfl)
  have r12 : RowOk K mg ⟨"InvalidFoot", 14, 0, ["column"]⟩ := T.row _ (List.mem_of_getElem? (i := 12) rfl)
  have r13 : RowOk K mg ⟨"InvalidRow", 15, 0, ["value"]⟩ := T.row _ (List.mem_of_getElem? (i := 13) rfl)
  have r14 : RowOk K mg ⟨"InvalidCount", 16, 0, ["value"]⟩ := T.row _ (List.mem_of_getElem? (i := 14) rfl)
  have r15 : RowOk K mg ⟨"InvalidAbove", 17, 0, ["value"]⟩ := T.row _ (List.mem_of_getElem? (i := 15) rfl)
  have r16 : RowOk K mg ⟨"InvalidTable", 18, 0, ["value"]⟩ := T.row _ (List.mem_of_getElem? (i := 16) rfl)
  have r17 : RowOk K mg ⟨"InvalidStates", 19, 0, ["position"]⟩ := T.row _ (List.mem_of_getElem? (i := 17) rfl)
  have r18 : RowOk K mg ⟨"InvalidText", 20, 0, ["line"]⟩ := T.row _ (List.mem_of_getElem? (i := 18) rfl)
  have r19 : RowOk K mg ⟨"InvalidClaim", 21, 0, ["value"]⟩ := T.row _ (List.mem_of_getElem? (i := 19) rfl)
  have r20 : RowOk K mg ⟨"InvalidCommand", 22, 0, ["value"]⟩ := T.row _ (List.mem_of_getElem? (i := 20) rfl)
  have r21 : RowOk K mg ⟨"UnknownColumn", 24, 1, ["value"]⟩ := T.row _ (List.mem_of_getElem? (i := 21) rfl)
  have r22 : RowOk K mg ⟨"UnknownKind", 25, 1, ["value"]⟩ := T.row _ (List.mem_of_getElem? (i := 22) rfl)
  have r23 : RowOk K mg ⟨"UnknownPlace", 26, 1, ["value"]⟩ := T.row _ (List.mem_of_getElem? (i := 23) rfl)
  have r24 : RowOk K mg ⟨"UnknownName", 27, 1, ["value"]⟩ := T.row _ (List.mem_of_getElem? (i := 24) rfl)
  have r25 : RowOk K mg ⟨"NotAllowed", 29, 2, ["row"]⟩ := T.row _ (List.mem_of_getElem? (i := 25) rfl)
  have r26 : RowOk K mg ⟨"NotFull", 30, 2, ["column"]⟩ := T.row _ (List.mem_of_getElem? (i := 26) rfl)
  have r27 : RowOk K mg ⟨"OtherPlan", 31, 2, []⟩ := T.row _ (List.mem_of_getElem? (i := 27) rfl)
  have r28 : RowOk K mg ⟨"NotTurning", 32, 2, ["place"]⟩ := T.row _ (List.mem_of_getElem? (i := 28) rfl)
  have r29 : RowOk K mg ⟨"NameTaken", 33, 2, ["name"]⟩ := T.row _ (List.mem_of_getElem? (i := 29) rfl)
  have r30 : RowOk K mg ⟨"NothingToUndo", 34, 2, []⟩ := T.row _ (List.mem_of_getElem? (i := 30) rfl)
  have r31 : RowOk K mg ⟨"TooMany", 36, 3, ["what", "limit"]⟩ := T.row _ (List.mem_of_getElem? (i := 31) rfl)
  refine F.ok sc_held (fun vs H Q E h => ?_) (fun cdv A outer s H vs Q E hr h => ?_)
  · obtain ⟨l, as, v, u, rfl, _⟩ := h
    rfl
  · obtain ⟨l, as, v, u, rfl, hl, he, q⟩ := h
    refine ⟨_, PSs.nox (pss_cons (ps_set (i := 1) sc_held.nd rfl (Or.inl rfl) (pe_lst (pa_cons pe_int (pa_cons pe_int (pa_cons pe_int (pa_cons pe_int (pa_cons pe_int (pa_cons pe_int (pa_cons pe_int (pa_cons pe_int (pa_cons pe_int (pa_cons pe_int (pa_cons pe_int (pa_cons pe_int (pa_cons pe_int (pa_cons pe_int (pa_cons pe_int (pa_cons pe_int pa_nil))))))))))))))))))
      (pss_cons (ps_set (i := 2) sc_held.nd rfl (Or.inl rfl) (pe_op op_cat (pe_lc (own := [("_law_k", 3)]) (g := gName 3) (tt := tYes) (te := tXf K (tOp (rIxL K) (tVar 0) (tVar 3)) "value") rfl sc_held.nd (pi_list (pv 1)) (blkOk_by (N := ["_law_some", "_law_numbers", "_law_found", "_law_k"]) (sc := defScope sHeld) (by decide +kernel)) (fun _ _ _ _ _ => by exact pg_name (i := 3) sc_held.nd rfl (Or.inl rfl)) (fun _ _ _ _ _ => by exact pts_nil) (fun _ _ _ _ _ => by exact (pe_xfld (pe_ix ix_list (pv 0) (pv 3) (fun _ _ => rfl))))) (pe_lc (own := [("_law_k", 3)]) (g := gName 3) (tt := tYes) (te := tXf K (tOp (rIxL K) (tVar 0) (tVar 3)) "position") rfl sc_held.nd (pi_list (pe_lst (pa_cons pe_int (pa_cons pe_int (pa_cons pe_int (pa_cons pe_int pa_nil)))))) (blkOk_by (N := ["_law_some", "_law_numbers", "_law_found", "_law_k"]) (sc := defScope sHeld) (by decide +kernel)) (fun _ _ _ _ _ => by exact pg_name (i := 3) sc_held.nd rfl (Or.inl rfl)) (fun _ _ _ _ _ => by exact pts_nil) (fun _ _ _ _ _ => by exact (pe_xfld (pe_ix ix_list (pv 0) (pv 3) (fun _ _ => rfl)))))))
      (pss_cons (ps_set (i := 2) sc_held.nd rfl (Or.inl rfl) (pe_op op_cat (pe_op op_cat (pv 2) (pe_lc (own := [("_law_k", 3)]) (g := gName 3) (tt := tYes) (te := tXf K (tOp (rIxL K) (tVar 0) (tVar 3)) "column") rfl sc_held.nd (pi_list (pe_lst (pa_cons pe_int (pa_cons pe_int (pa_cons pe_int (pa_cons pe_int pa_nil)))))) (blkOk_by (N := ["_law_some", "_law_numbers", "_law_found", "_law_k"]) (sc := defScope sHeld) (by decide +kernel)) (fun _ _ _ _ _ => by exact pg_name (i := 3) sc_held.nd rfl (Or.inl rfl)) (fun _ _ _ _ _ => by exact pts_nil) (fun _ _ _ _ _ => by exact (pe_xfld (pe_ix ix_list (pv 0) (pv 3) (fun _ _ => rfl)))))) (pe_lst (pa_cons (pe_xfld (pe_ix ix_list (pv 0) pe_int (fun _ _ => rfl))) (pa_cons (pe_xfld (pe_ix ix_list (pv 0) pe_int (fun _ _ => rfl))) (pa_cons (pe_xfld (pe_ix ix_list (pv 0) pe_int (fun _ _ => rfl))) pa_nil))))))
      (pss_one (ps_ret (pe_op op_cat (pv 2) (pe_lst (pa_cons (pe_xfld (pe_ix ix_list (pv 0) pe_int (fun _ _ => rfl))) (pa_cons (pe_xfld (pe_ix ix_list (pv 0) pe_int (fun _ _ => rfl))) (pa_cons (pe_xfld (pe_ix ix_list (pv 0) pe_int (fun _ _ => rfl))) (pa_cons (pe_xfld (pe_ix ix_list (pv 0) pe_int (fun _ _ => rfl))) (pa_cons (pe_xfld (pe_ix ix_list (pv 0) pe_int (fun _ _ => rfl))) (pa_cons (pe_xfld (pe_ix ix_list (pv 0) pe_int (fun _ _ => rfl))) pa_nil))))))))))))), ?_⟩
    have t0 : Same H H := Same.refl H
    walk_at "rd"
    refine ⟨Rd.small (by show 16 ≤ 100000; decide), fun l0 h0 => ?_⟩
    have o0 := upd_same (H := H) (a := l0) (o := HO.lst [V.int 0, V.int 1, V.int 2, V.int 3, V.int 4, V.int 5, V.int 13, V.int 14, V.int 15, V.int 16, V.int 19, V.int 20, V.int 21, V.int 22, V.int 23, V.int 24])
    have z0 := same_new (o := HO.lst [V.int 0, V.int 1, V.int 2, V.int 3, V.int 4, V.int 5, V.int 13, V.int 14, V.int 15, V.int 16, V.int 19, V.int 20, V.int 21, V.int 22, V.int 23, V.int 24]) h0
    generalize upd H l0 (HO.lst [V.int 0, V.int 1, V.int 2, V.int 3, V.int 4, V.int 5, V.int 13, V.int 14, V.int 15, V.int 16, V.int 19, V.int 20, V.int 21, V.int 22, V.int 23, V.int 24]) = N0 at o0 z0 ⊢
    replace he := he.same z0
    replace hl := z0 _ _ hl
    replace t0 := t0.trans z0
    walk_at "rd"
    refine ⟨_, rfl, ⟨_, SqL.of o0⟩, lcR (fun k => match k with | _ => v) (SqL.of o0) rfl (by show 16 ≤ 100000; decide) (fun k x hx H2 Q' s q' => ?_) (fun D1 N1 z1 o1 => ?_)⟩
    · match k, hx, q' with
      | 0, hx, q' =>
        obtain rfl := Option.some.inj hx
        exact rd_at (k := 0) r0 (s _ _ hl) (he.same s) rfl (by simp) rfl (fun Q z => ⟨_, rfl, z⟩) (fun Q z => ⟨_, rfl, z⟩) q'
      | 1, hx, q' =>
        obtain rfl := Option.some.inj hx
        exact rd_at (k := 1) r1 (s _ _ hl) (he.same s) rfl (by simp) rfl (fun Q z => ⟨_, rfl, z⟩) (fun Q z => ⟨_, rfl, z⟩) q'
      | 2, hx, q' =>
        obtain rfl := Option.some.inj hx
        exact rd_at (k := 2) r2 (s _ _ hl) (he.same s) rfl (by simp) rfl (fun Q z => ⟨_, rfl, z⟩) (fun Q z => ⟨_, rfl, z⟩) q'
      | 3, hx, q' =>
        obtain rfl := Option.some.inj hx
        exact rd_at (k := 3) r3 (s _ _ hl) (he.same s) rfl (by simp) rfl (fun Q z => ⟨_, rfl, z⟩) (fun Q z => ⟨_, rfl, z⟩) q'
      | 4, hx, q' =>
        obtain rfl := Option.some.inj hx
        exact rd_at (k := 4) r4 (s _ _ hl) (he.same s) rfl (by simp) rfl (fun Q z => ⟨_, rfl, z⟩) (fun Q z => ⟨_, rfl, z⟩) q'
      | 5, hx, q' =>
        obtain rfl := Option.some.inj hx
        exact rd_at (k := 5) r5 (s _ _ hl) (he.same s) rfl (by simp) rfl (fun Q z => ⟨_, rfl, z⟩) (fun Q z => ⟨_, rfl, z⟩) q'
      | 6, hx, q' =>
        obtain rfl := Option.some.inj hx
        exact rd_at (k := 13) r13 (s _ _ hl) (he.same s) rfl (by simp) rfl (fun Q z => ⟨_, rfl, z⟩) (fun Q z => ⟨_, rfl, z⟩) q'
      | 7, hx, q' =>
        obtain rfl := Option.some.inj hx
        exact rd_at (k := 14) r14 (s _ _ hl) (he.same s) rfl (by simp) rfl (fun Q z => ⟨_, rfl, z⟩) (fun Q z => ⟨_, rfl, z⟩) q'
      | 8, hx, q' =>
        obtain rfl := Option.some.inj hx
        exact rd_at (k := 15) r15 (s _ _ hl) (he.same s) rfl (by simp) rfl (fun Q z => ⟨_, rfl, z⟩) (fun Q z => ⟨_, rfl, z⟩) q'
      | 9, hx, q' =>
        obtain rfl := Option.some.inj hx
        exact rd_at (k := 16) r16 (s _ _ hl) (he.same s) rfl (by simp) rfl (fun Q z => ⟨_, rfl, z⟩) (fun Q z => ⟨_, rfl, z⟩) q'
      | 10, hx, q' =>
        obtain rfl := Option.some.inj hx
        exact rd_at (k := 19) r19 (s _ _ hl) (he.same s) rfl (by simp) rfl (fun Q z => ⟨_, rfl, z⟩) (fun Q z => ⟨_, rfl, z⟩) q'
      | 11, hx, q' =>
        obtain rfl := Option.some.inj hx
        exact rd_at (k := 20) r20 (s _ _ hl) (he.same s) rfl (by simp) rfl (fun Q z => ⟨_, rfl, z⟩) (fun Q z => ⟨_, rfl, z⟩) q'
      | 12, hx, q' =>
        obtain rfl := Option.some.inj hx
        exact rd_at (k := 21) r21 (s _ _ hl) (he.same s) rfl (by simp) rfl (fun Q z => ⟨_, rfl, z⟩) (fun Q z => ⟨_, rfl, z⟩) q'
      | 13, hx, q' =>
        obtain rfl := Option.some.inj hx
        exact rd_at (k := 22) r22 (s _ _ hl) (he.same s) rfl (by simp) rfl (fun Q z => ⟨_, rfl, z⟩) (fun Q z => ⟨_, rfl, z⟩) q'
      | 14, hx, q' =>
        obtain rfl := Option.some.inj hx
        exact rd_at (k := 23) r23 (s _ _ hl) (he.same s) rfl (by simp) rfl (fun Q z => ⟨_, rfl, z⟩) (fun Q z => ⟨_, rfl, z⟩) q'
      | 15, hx, q' =>
        obtain rfl := Option.some.inj hx
        exact rd_at (k := 24) r24 (s _ _ hl) (he.same s) rfl (by simp) rfl (fun Q z => ⟨_, rfl, z⟩) (fun Q z => ⟨_, rfl, z⟩) q'
      | k + 16, hx, _ => simp at hx
    replace o1 : N1 D1 = some (HO.lst [v, v, v, v, v, v, v, v, v, v, v, v, v, v, v, v]) := o1
    replace he := he.same z1
    replace hl := z1 _ _ hl
    replace t0 := t0.trans z1
    replace o0 := z1 _ _ o0
    walk_at "rd"
    refine ⟨Rd.small (by show 4 ≤ 100000; decide), fun l2 h2 => ?_⟩
    have o2 := upd_same (H := N1) (a := l2) (o := HO.lst [V.int 6, V.int 10, V.int 11, V.int 17])
    have z2 := same_new (o := HO.lst [V.int 6, V.int 10, V.int 11, V.int 17]) h2
    generalize upd N1 l2 (HO.lst [V.int 6, V.int 10, V.int 11, V.int 17]) = N2 at o2 z2 ⊢
    replace he := he.same z2
    replace hl := z2 _ _ hl
    replace t0 := t0.trans z2
    replace o0 := z2 _ _ o0
    replace o1 := z2 _ _ o1
    walk_at "rd"
    refine ⟨_, rfl, ⟨_, SqL.of o2⟩, lcR (fun k => match k with | 2 => u | _ => v) (SqL.of o2) rfl (by show 4 ≤ 100000; decide) (fun k x hx H2 Q' s q' => ?_) (fun D3 N3 z3 o3 => ?_)⟩
    · match k, hx, q' with
      | 0, hx, q' =>
        obtain rfl := Option.some.inj hx
        exact rd_at (k := 6) r6 (s _ _ hl) (he.same s) rfl (by simp) rfl (fun Q z => ⟨_, rfl, z⟩) (fun Q z => ⟨_, rfl, z⟩) q'
      | 1, hx, q' =>
        obtain rfl := Option.some.inj hx
        exact rd_at (k := 10) r10 (s _ _ hl) (he.same s) rfl (by simp) rfl (fun Q z => ⟨_, rfl, z⟩) (fun Q z => ⟨_, rfl, z⟩) q'
      | 2, hx, q' =>
        obtain rfl := Option.some.inj hx
        exact rd_at (k := 11) r11 (s _ _ hl) (he.same s) rfl (by simp) rfl (fun Q z => ⟨_, rfl, z⟩) (fun Q z => ⟨_, rfl, z⟩) q'
      | 3, hx, q' =>
        obtain rfl := Option.some.inj hx
        exact rd_at (k := 17) r17 (s _ _ hl) (he.same s) rfl (by simp) rfl (fun Q z => ⟨_, rfl, z⟩) (fun Q z => ⟨_, rfl, z⟩) q'
      | k + 4, hx, _ => simp at hx
    replace o3 : N3 D3 = some (HO.lst [v, v, u, v]) := o3
    replace he := he.same z3
    replace hl := z3 _ _ hl
    replace t0 := t0.trans z3
    replace o0 := z3 _ _ o0
    replace o1 := z3 _ _ o1
    replace o2 := z3 _ _ o2
    walk_at "rd"
    refine ⟨_, _, _, _, rfl, rfl, o1, o3, Rd.small (by show 20 ≤ 100000; decide), fun c4 h4 => ?_⟩
    have o4 := upd_same (H := N3) (a := c4) (o := HO.lst ([v, v, v, v, v, v, v, v, v, v, v, v, v, v, v, v] ++ [v, v, u, v]))
    have z4 := same_new (o := HO.lst ([v, v, v, v, v, v, v, v, v, v, v, v, v, v, v, v] ++ [v, v, u, v])) h4
    generalize upd N3 c4 (HO.lst ([v, v, v, v, v, v, v, v, v, v, v, v, v, v, v, v] ++ [v, v, u, v])) = N4 at o4 z4 ⊢
    replace o4 : N4 c4 = some (HO.lst [v, v, v, v, v, v, v, v, v, v, v, v, v, v, v, v, v, v, u, v]) := o4
    replace he := he.same z4
    replace hl := z4 _ _ hl
    replace t0 := t0.trans z4
    replace o0 := z4 _ _ o0
    replace o1 := z4 _ _ o1
    replace o2 := z4 _ _ o2
    replace o3 := z4 _ _ o3
    walk_at "rd"
    walk_at "rd"
    refine ⟨Rd.small (by show 4 ≤ 100000; decide), fun l5 h5 => ?_⟩
    have o5 := upd_same (H := N4) (a := l5) (o := HO.lst [V.int 7, V.int 8, V.int 12, V.int 26])
    have z5 := same_new (o := HO.lst [V.int 7, V.int 8, V.int 12, V.int 26]) h5
    generalize upd N4 l5 (HO.lst [V.int 7, V.int 8, V.int 12, V.int 26]) = N5 at o5 z5 ⊢
    replace he := he.same z5
    replace hl := z5 _ _ hl
    replace t0 := t0.trans z5
    replace o0 := z5 _ _ o0
    replace o1 := z5 _ _ o1
    replace o2 := z5 _ _ o2
    replace o3 := z5 _ _ o3
    replace o4 := z5 _ _ o4
    walk_at "rd"
    refine ⟨_, rfl, ⟨_, SqL.of o5⟩, lcR (fun k => match k with | 1 => u | _ => v) (SqL.of o5) rfl (by show 4 ≤ 100000; decide) (fun k x hx H2 Q' s q' => ?_) (fun D6 N6 z6 o6 => ?_)⟩
    · match k, hx, q' with
      | 0, hx, q' =>
        obtain rfl := Option.some.inj hx
        exact rd_at (k := 7) r7 (s _ _ hl) (he.same s) rfl (by simp) rfl (fun Q z => ⟨_, rfl, z⟩) (fun Q z => ⟨_, rfl, z⟩) q'
      | 1, hx, q' =>
        obtain rfl := Option.some.inj hx
        exact rd_at (k := 8) r8 (s _ _ hl) (he.same s) rfl (by simp) rfl (fun Q z => ⟨_, rfl, z⟩) (fun Q z => ⟨_, rfl, z⟩) q'
      | 2, hx, q' =>
        obtain rfl := Option.some.inj hx
        exact rd_at (k := 12) r12 (s _ _ hl) (he.same s) rfl (by simp) rfl (fun Q z => ⟨_, rfl, z⟩) (fun Q z => ⟨_, rfl, z⟩) q'
      | 3, hx, q' =>
        obtain rfl := Option.some.inj hx
        exact rd_at (k := 26) r26 (s _ _ hl) (he.same s) rfl (by simp) rfl (fun Q z => ⟨_, rfl, z⟩) (fun Q z => ⟨_, rfl, z⟩) q'
      | k + 4, hx, _ => simp at hx
    replace o6 : N6 D6 = some (HO.lst [v, u, v, v]) := o6
    replace he := he.same z6
    replace hl := z6 _ _ hl
    replace t0 := t0.trans z6
    replace o0 := z6 _ _ o0
    replace o1 := z6 _ _ o1
    replace o2 := z6 _ _ o2
    replace o3 := z6 _ _ o3
    replace o4 := z6 _ _ o4
    replace o5 := z6 _ _ o5
    walk_at "rd"
    refine ⟨_, _, _, _, rfl, rfl, o4, o6, Rd.small (by show 24 ≤ 100000; decide), fun c7 h7 => ?_⟩
    have o7 := upd_same (H := N6) (a := c7) (o := HO.lst ([v, v, v, v, v, v, v, v, v, v, v, v, v, v, v, v, v, v, u, v] ++ [v, u, v, v]))
    have z7 := same_new (o := HO.lst ([v, v, v, v, v, v, v, v, v, v, v, v, v, v, v, v, v, v, u, v] ++ [v, u, v, v])) h7
    generalize upd N6 c7 (HO.lst ([v, v, v, v, v, v, v, v, v, v, v, v, v, v, v, v, v, v, u, v] ++ [v, u, v, v])) = N7 at o7 z7 ⊢
    replace o7 : N7 c7 = some (HO.lst [v, v, v, v, v, v, v, v, v, v, v, v, v, v, v, v, v, v, u, v, v, u, v, v]) := o7
    replace he := he.same z7
    replace hl := z7 _ _ hl
    replace t0 := t0.trans z7
    replace o0 := z7 _ _ o0
    replace o1 := z7 _ _ o1
    replace o2 := z7 _ _ o2
    replace o3 := z7 _ _ o3
    replace o4 := z7 _ _ o4
    replace o5 := z7 _ _ o5
    replace o6 := z7 _ _ o6
    walk_at "rd"
    refine rd_at (k := 8) r8 hl he rfl (by simp) rfl (fun Q z => ⟨_, rfl, z⟩) (fun Q z => z) ?_
    walk_at "rd"
    refine rd_at (k := 9) r9 hl he rfl (by simp) rfl (fun Q z => ⟨_, rfl, z⟩) (fun Q z => z) ?_
    walk_at "rd"
    refine rd_at (k := 11) r11 hl he rfl (by simp) rfl (fun Q z => ⟨_, rfl, z⟩) (fun Q z => z) ?_
    walk_at "rd"
    refine ⟨Rd.small (by show 3 ≤ 100000; decide), fun l8 h8 => ?_⟩
    have o8 := upd_same (H := N7) (a := l8) (o := HO.lst [v, v, v])
    have z8 := same_new (o := HO.lst [v, v, v]) h8
    generalize upd N7 l8 (HO.lst [v, v, v]) = N8 at o8 z8 ⊢
    replace he := he.same z8
    replace hl := z8 _ _ hl
    replace t0 := t0.trans z8
    replace o0 := z8 _ _ o0
    replace o1 := z8 _ _ o1
    replace o2 := z8 _ _ o2
    replace o3 := z8 _ _ o3
    replace o4 := z8 _ _ o4
    replace o5 := z8 _ _ o5
    replace o6 := z8 _ _ o6
    replace o7 := z8 _ _ o7
    walk_at "rd"
    refine ⟨_, _, _, _, rfl, rfl, o7, o8, Rd.small (by show 27 ≤ 100000; decide), fun c9 h9 => ?_⟩
    have o9 := upd_same (H := N8) (a := c9) (o := HO.lst ([v, v, v, v, v, v, v, v, v, v, v, v, v, v, v, v, v, v, u, v, v, u, v, v] ++ [v, v, v]))
    have z9 := same_new (o := HO.lst ([v, v, v, v, v, v, v, v, v, v, v, v, v, v, v, v, v, v, u, v, v, u, v, v] ++ [v, v, v])) h9
    generalize upd N8 c9 (HO.lst ([v, v, v, v, v, v, v, v, v, v, v, v, v, v, v, v, v, v, u, v, v, u, v, v] ++ [v, v, v])) = N9 at o9 z9 ⊢
    replace o9 : N9 c9 = some (HO.lst [v, v, v, v, v, v, v, v, v, v, v, v, v, v, v, v, v, v, u, v, v, u, v, v, v, v, v]) := o9
    replace he := he.same z9
    replace hl := z9 _ _ hl
    replace t0 := t0.trans z9
    replace o0 := z9 _ _ o0
    replace o1 := z9 _ _ o1
    replace o2 := z9 _ _ o2
    replace o3 := z9 _ _ o3
    replace o4 := z9 _ _ o4
    replace o5 := z9 _ _ o5
    replace o6 := z9 _ _ o6
    replace o7 := z9 _ _ o7
    replace o8 := z9 _ _ o8
    walk_at "rd"
    walk_at "rd"
    refine rd_at (k := 18) r18 hl he rfl (by simp) rfl (fun Q z => ⟨_, rfl, z⟩) (fun Q z => z) ?_
    walk_at "rd"
    refine rd_at (k := 25) r25 hl he rfl (by simp) rfl (fun Q z => ⟨_, rfl, z⟩) (fun Q z => z) ?_
    walk_at "rd"
    refine rd_at (k := 28) r28 hl he rfl (by simp) rfl (fun Q z => ⟨_, rfl, z⟩) (fun Q z => z) ?_
    walk_at "rd"
    refine rd_at (k := 29) r29 hl he rfl (by simp) rfl (fun Q z => ⟨_, rfl, z⟩) (fun Q z => z) ?_
    walk_at "rd"
    refine rd_at (k := 31) r31 hl he rfl (by simp) rfl (fun Q z => ⟨_, rfl, z⟩) (fun Q z => z) ?_
    walk_at "rd"
    refine rd_at (k := 31) r31 hl he rfl (by simp) rfl (fun Q z => ⟨_, rfl, z⟩) (fun Q z => z) ?_
    walk_at "rd"
    refine ⟨Rd.small (by show 6 ≤ 100000; decide), fun l10 h10 => ?_⟩
    have o10 := upd_same (H := N9) (a := l10) (o := HO.lst [v, v, v, v, v, u])
    have z10 := same_new (o := HO.lst [v, v, v, v, v, u]) h10
    generalize upd N9 l10 (HO.lst [v, v, v, v, v, u]) = N10 at o10 z10 ⊢
    replace he := he.same z10
    replace hl := z10 _ _ hl
    replace t0 := t0.trans z10
    replace o0 := z10 _ _ o0
    replace o1 := z10 _ _ o1
    replace o2 := z10 _ _ o2
    replace o3 := z10 _ _ o3
    replace o4 := z10 _ _ o4
    replace o5 := z10 _ _ o5
    replace o6 := z10 _ _ o6
    replace o7 := z10 _ _ o7
    replace o8 := z10 _ _ o8
    replace o9 := z10 _ _ o9
    walk_at "rd"
    refine ⟨_, _, _, _, rfl, rfl, o9, o10, Rd.small (by show 33 ≤ 100000; decide), fun c11 h11 => ?_⟩
    have o11 := upd_same (H := N10) (a := c11) (o := HO.lst ([v, v, v, v, v, v, v, v, v, v, v, v, v, v, v, v, v, v, u, v, v, u, v, v, v, v, v] ++ [v, v, v, v, v, u]))
    have z11 := same_new (o := HO.lst ([v, v, v, v, v, v, v, v, v, v, v, v, v, v, v, v, v, v, u, v, v, u, v, v, v, v, v] ++ [v, v, v, v, v, u])) h11
    generalize upd N10 c11 (HO.lst ([v, v, v, v, v, v, v, v, v, v, v, v, v, v, v, v, v, v, u, v, v, u, v, v, v, v, v] ++ [v, v, v, v, v, u])) = N11 at o11 z11 ⊢
    replace o11 : N11 c11 = some (HO.lst [v, v, v, v, v, v, v, v, v, v, v, v, v, v, v, v, v, v, u, v, v, u, v, v, v, v, v, v, v, v, v, v, u]) := o11
    replace he := he.same z11
    replace hl := z11 _ _ hl
    replace t0 := t0.trans z11
    replace o0 := z11 _ _ o0
    replace o1 := z11 _ _ o1
    replace o2 := z11 _ _ o2
    replace o3 := z11 _ _ o3
    replace o4 := z11 _ _ o4
    replace o5 := z11 _ _ o5
    replace o6 := z11 _ _ o6
    replace o7 := z11 _ _ o7
    replace o8 := z11 _ _ o8
    replace o9 := z11 _ _ o9
    replace o10 := z11 _ _ o10
    exact q _ _ t0 o11
theorem sc_due : FnScope ["_law_first", "_law_more", "_law_found"] ["_law_first", "_law_more"] (defScope sDue) := ⟨rfl, rfl, rfl, by decide +kernel, rfl, by decide +kernel, by decide +kernel⟩
theorem ok_due (F : FnP K "_law_due" sDue f fd) : FnOk P w K mg base CX0 1 f fd ["_law_first", "_law_more"] spDue := by
  refine F.ok sc_due (fun vs H Q E h => ?_) (fun cdv A outer s H vs Q E hr h => ?_)
  · obtain ⟨v, u, rfl, _⟩ := h
    rfl
  · obtain ⟨v, u, rfl, q⟩ := h
    refine ⟨_, PSs.nox (pss_cons (ps_set (i := 2) sc_due.nd rfl (Or.inl rfl) (pe_op op_cat (pe_op op_cat (pe_op op_rep (pe_lst (pa_cons (pv 0) pa_nil)) pe_int) (pe_lst (pa_cons (pv 0) (pa_cons (pv 0) (pa_cons (pv 1) (pa_cons (pv 0) pa_nil)))))) (pe_lst (pa_cons (pv 0) (pa_cons (pv 1) (pa_cons (pv 0) (pa_cons (pv 0) pa_nil)))))))
      (pss_one (ps_ret (pe_op op_cat (pv 2) (pe_lst (pa_cons (pv 0) (pa_cons (pv 0) (pa_cons (pv 0) (pa_cons (pv 0) (pa_cons (pv 0) (pa_cons (pv 0) (pa_cons (pv 0) (pa_cons (pv 0) (pa_cons (pv 1) pa_nil)))))))))))))), ?_⟩
    have t0 : Same H H := Same.refl H
    walk_at "rd"
    refine ⟨Rd.small (by show 1 ≤ 100000; decide), fun l0 h0 => ?_⟩
    have o0 := upd_same (H := H) (a := l0) (o := HO.lst [v])
    have z0 := same_new (o := HO.lst [v]) h0
    generalize upd H l0 (HO.lst [v]) = N0 at o0 z0 ⊢
    replace t0 := t0.trans z0
    walk_at "rd"
    refine ⟨_, _, _, rfl, rfl, o0, by decide, by decide, Rd.small (by show 16 ≤ 100000; decide), fun c1 h1 => ?_⟩
    have o1 := upd_same (H := N0) (a := c1) (o := HO.lst (List.replicate (Int.toNat 16) [v]).flatten)
    have z1 := same_new (o := HO.lst (List.replicate (Int.toNat 16) [v]).flatten) h1
    generalize upd N0 c1 (HO.lst (List.replicate (Int.toNat 16) [v]).flatten) = N1 at o1 z1 ⊢
    replace o1 : N1 c1 = some (HO.lst [v, v, v, v, v, v, v, v, v, v, v, v, v, v, v, v]) := o1
    replace t0 := t0.trans z1
    replace o0 := z1 _ _ o0
    walk_at "rd"
    refine ⟨Rd.small (by show 4 ≤ 100000; decide), fun l2 h2 => ?_⟩
    have o2 := upd_same (H := N1) (a := l2) (o := HO.lst [v, v, u, v])
    have z2 := same_new (o := HO.lst [v, v, u, v]) h2
    generalize upd N1 l2 (HO.lst [v, v, u, v]) = N2 at o2 z2 ⊢
    replace t0 := t0.trans z2
    replace o0 := z2 _ _ o0
    replace o1 := z2 _ _ o1
    walk_at "rd"
    refine ⟨_, _, _, _, rfl, rfl, o1, o2, Rd.small (by show 20 ≤ 100000; decide), fun c3 h3 => ?_⟩
    have o3 := upd_same (H := N2) (a := c3) (o := HO.lst ([v, v, v, v, v, v, v, v, v, v, v, v, v, v, v, v] ++ [v, v, u, v]))
    have z3 := same_new (o := HO.lst ([v, v, v, v, v, v, v, v, v, v, v, v, v, v, v, v] ++ [v, v, u, v])) h3
    generalize upd N2 c3 (HO.lst ([v, v, v, v, v, v, v, v, v, v, v, v, v, v, v, v] ++ [v, v, u, v])) = N3 at o3 z3 ⊢
    replace o3 : N3 c3 = some (HO.lst [v, v, v, v, v, v, v, v, v, v, v, v, v, v, v, v, v, v, u, v]) := o3
    replace t0 := t0.trans z3
    replace o0 := z3 _ _ o0
    replace o1 := z3 _ _ o1
    replace o2 := z3 _ _ o2
    walk_at "rd"
    refine ⟨Rd.small (by show 4 ≤ 100000; decide), fun l4 h4 => ?_⟩
    have o4 := upd_same (H := N3) (a := l4) (o := HO.lst [v, u, v, v])
    have z4 := same_new (o := HO.lst [v, u, v, v]) h4
    generalize upd N3 l4 (HO.lst [v, u, v, v]) = N4 at o4 z4 ⊢
    replace t0 := t0.trans z4
    replace o0 := z4 _ _ o0
    replace o1 := z4 _ _ o1
    replace o2 := z4 _ _ o2
    replace o3 := z4 _ _ o3
    walk_at "rd"
    refine ⟨_, _, _, _, rfl, rfl, o3, o4, Rd.small (by show 24 ≤ 100000; decide), fun c5 h5 => ?_⟩
    have o5 := upd_same (H := N4) (a := c5) (o := HO.lst ([v, v, v, v, v, v, v, v, v, v, v, v, v, v, v, v, v, v, u, v] ++ [v, u, v, v]))
    have z5 := same_new (o := HO.lst ([v, v, v, v, v, v, v, v, v, v, v, v, v, v, v, v, v, v, u, v] ++ [v, u, v, v])) h5
    generalize upd N4 c5 (HO.lst ([v, v, v, v, v, v, v, v, v, v, v, v, v, v, v, v, v, v, u, v] ++ [v, u, v, v])) = N5 at o5 z5 ⊢
    replace o5 : N5 c5 = some (HO.lst [v, v, v, v, v, v, v, v, v, v, v, v, v, v, v, v, v, v, u, v, v, u, v, v]) := o5
    replace t0 := t0.trans z5
    replace o0 := z5 _ _ o0
    replace o1 := z5 _ _ o1
    replace o2 := z5 _ _ o2
    replace o3 := z5 _ _ o3
    replace o4 := z5 _ _ o4
    walk_at "rd"
    walk_at "rd"
    refine ⟨Rd.small (by show 9 ≤ 100000; decide), fun l6 h6 => ?_⟩
    have o6 := upd_same (H := N5) (a := l6) (o := HO.lst [v, v, v, v, v, v, v, v, u])
    have z6 := same_new (o := HO.lst [v, v, v, v, v, v, v, v, u]) h6
    generalize upd N5 l6 (HO.lst [v, v, v, v, v, v, v, v, u]) = N6 at o6 z6 ⊢
    replace t0 := t0.trans z6
    replace o0 := z6 _ _ o0
    replace o1 := z6 _ _ o1
    replace o2 := z6 _ _ o2
    replace o3 := z6 _ _ o3
    replace o4 := z6 _ _ o4
    replace o5 := z6 _ _ o5
    walk_at "rd"
    refine ⟨_, _, _, _, rfl, rfl, o5, o6, Rd.small (by show 33 ≤ 100000; decide), fun c7 h7 => ?_⟩
    have o7 := upd_same (H := N6) (a := c7) (o := HO.lst ([v, v, v, v, v, v, v, v, v, v, v, v, v, v, v, v, v, v, u, v, v, u, v, v] ++ [v, v, v, v, v, v, v, v, u]))
    have z7 := same_new (o := HO.lst ([v, v, v, v, v, v, v, v, v, v, v, v, v, v, v, v, v, v, u, v, v, u, v, v] ++ [v, v, v, v, v, v, v, v, u])) h7
    generalize upd N6 c7 (HO.lst ([v, v, v, v, v, v, v, v, v, v, v, v, v, v, v, v, v, v, u, v, v, u, v, v] ++ [v, v, v, v, v, v, v, v, u])) = N7 at o7 z7 ⊢
    replace o7 : N7 c7 = some (HO.lst [v, v, v, v, v, v, v, v, v, v, v, v, v, v, v, v, v, v, u, v, v, u, v, v, v, v, v, v, v, v, v, v, u]) := o7
    replace t0 := t0.trans z7
    replace o0 := z7 _ _ o0
    replace o1 := z7 _ _ o1
    replace o2 := z7 _ _ o2
    replace o3 := z7 _ _ o3
    replace o4 := z7 _ _ o4
    replace o5 := z7 _ _ o5
    replace o6 := z7 _ _ o6
    exact q _ _ t0 o7
end
end K15

namespace K15
open PySem PySem.Spec PyProof.Rows L2
/-! ### what is shown of a list of data -/
theorem fit {n m : Nat} : ∀ {ds : List PyData}, (∀ d ∈ ds, d.showable = true ∧ d.depth ≤ n ∧ d.shown.length ≤ m) →
    PyData.showableAll ds = true ∧ PyData.depthAll ds ≤ n ∧ ∀ k acc, (textFrom k acc (PyData.shownAll ds)).length ≤ acc.length + (m + 2) * ds.length
  | [], _ => ⟨rfl, Nat.zero_le _, fun _ acc => Nat.le_refl acc.length⟩
  | d :: ds, h => by
    obtain ⟨a, b, c⟩ := h d (List.mem_cons_self ..)
    obtain ⟨a', b', c'⟩ := fit fun e he => h e (List.mem_cons_of_mem _ he)
    refine ⟨by simp only [PyData.showableAll, a, a', Bool.and_self], by simp only [PyData.depthAll]; omega, fun k acc => ?_⟩
    rw [PyData.shownAll]
    refine Nat.le_trans (c' _ _) ?_
    have e : ((if k > 0 then ", " else "" : String) : Str).length ≤ 2 := by split <;> decide
    rw [Str.length_append, Str.length_append, List.length_cons, Nat.mul_succ]
    omega
theorem fit_list {n m : Nat} {ds : List PyData} (h : ∀ d ∈ ds, d.showable = true ∧ d.depth ≤ n ∧ d.shown.length ≤ m) :
    (PyData.list ds).showable = true ∧ (PyData.list ds).depth ≤ n + 1 ∧ (PyData.list ds).shown.length ≤ (m + 2) * ds.length + 2 := by
  obtain ⟨a, b, c⟩ := fit h
  refine ⟨by simpa only [PyData.showable] using a, by simp only [PyData.depth]; omega, ?_⟩
  rw [PyData.shown, listText, Str.length_append]
  have := c 0 "["
  have e1 : (("[" : String) : Str).length = 1 := rfl
  have e2 : (("]" : String) : Str).length = 1 := rfl
  omega
def heldD (a b : PyData) : List PyData := List.replicate 16 a ++ [a, a, b, a] ++ [a, b, a, a] ++ [a, a, a] ++ [a, a, a, a, a, b]
theorem held_dds {K : PySem.W.Frag} {H : Hp} {v u : V} {a b : PyData} (h : Dd K H v a) (g : Dd K H u b) : Dds K H (heldL v u) (heldD a b) := by
  show Dds K H [v, v, v, v, v, v, v, v, v, v, v, v, v, v, v, v, v, v, u, v, v, u, v, v, v, v, v, v, v, v, v, v, u] [a, a, a, a, a, a, a, a, a, a, a, a, a, a, a, a, a, a, b, a, a, b, a, a, a, a, a, a, a, a, a, a, b]
  repeat (first | exact .nil | refine .cons (by assumption) ?_)
theorem held_fit {a b : PyData} (h : good a) (g : good b) : (PyData.list (heldD a b)).showable = true ∧ (PyData.list (heldD a b)).depth ≤ 4 ∧ (PyData.list (heldD a b)).shown.length ≤ 102 * 33 + 2 :=
  fit_list (n := 3) (m := 100) (ds := heldD a b) fun d hd => by
    have : d = a ∨ d = b := by
      simp only [heldD, List.mem_append, List.mem_replicate, List.mem_cons, List.not_mem_nil, or_false] at hd
      grind
    rcases this with rfl | rfl
    · exact h
    · exact g
/-! ### lists of truth values -/
theorem bools_dp {K : PySem.W.Frag} {H : Hp} : ∀ bs : List Bool, DpAll K H (bs.map V.bl) (bs.map PyData.bool)
  | [] => .nil
  | b :: bs => .cons (.bl b) (bools_dp bs)
theorem bools_lay : ∀ bs : List Bool, PyData.canLayAll0 (bs.map PyData.bool) = true
  | [] => rfl
  | b :: bs => by
    rw [List.map_cons, PyData.canLayAll0, bools_lay bs]
    rfl
theorem bools_deep : ∀ bs : List Bool, PyData.depthAll (bs.map PyData.bool) = 0
  | [] => rfl
  | b :: bs => by
    rw [List.map_cons, PyData.depthAll, bools_deep bs]
    rfl
theorem bools_shaped (bs : List Bool) : SeqAt.shaped (.list (bs.map PyData.bool)) = true := by
  simp [SeqAt.shaped, PyData.canLay0, bools_lay, PyData.depth, bools_deep]
theorem bools_eqv (bs : List Bool) : PyData.eqv (.list (bs.map PyData.bool)) (.list (bs.map PyData.bool)) = true :=
  SeqAt.eqv_refl _ (by simp [PyData.canLay0, bools_lay])
/-- two lists of the same truth values differ nowhere -/
theorem ne_bools {K : PySem.W.Frag} {H : Hp} {p q : Addr} {bs : List Bool} {Q : VK} (h : H p = some (.lst (bs.map V.bl))) (g : H q = some (.lst (bs.map V.bl))) (k : Q (.bl false) H) : rNeD K (.ref p) (.ref q) H Q :=
  ⟨_, _, .lst (SqL.of h) (bools_dp bs), .lst (SqL.of g) (bools_dp bs), bools_shaped bs, bools_shaped bs, by rw [bools_eqv]; exact k⟩
def LcJ (J : It) (i : Nat) (ii : List Nat) (te : TE) (σ : L2.St) (H1 : Hp) (Q : VK) : Prop :=
  ∀ D, H1 D = none → ∃ W : Nat → Nat → Hp → Prop, (∃ m, W 0 m (upd H1 D (.lst []))) ∧ ∀ k m H, W k m H →
      (J.stop k H ∧ Q (.ref D) H) ∨ (J.go k H ∧ ∃ Nx : Hp → Prop, (∀ H', Nx H' → ∃ m', m' < m ∧ W (k + 1) m' H') ∧ ∀ x H', J.yld k H x H' → gName i x (wipe σ ii) H' fun σ2 H2 => wipe σ2 ii = wipe σ ii ∧ tYes σ2 H2 fun b H3 =>
        if b = true then te σ2 H3 (fun y H4 => ∃ acc, H4 D = some (.lst acc) ∧ acc.length < sizeLine ∧ Nx (upd H4 D (.lst (acc ++ [y])))) else Nx H3)
theorem lcQr {ta : TA} {te : TE} {i : Nat} {ii : List Nat} {σ : L2.St} {H : Hp} {Q : VK} (h : ta σ H fun vs H1 => ∃ j, vs = [.int j] ∧ -2 ^ 62 ≤ j ∧ j < 2 ^ 62 ∧ LcJ (Itr 0 j.toNat) i ii te σ H1 Q) : tLc (iRng1 ta) (gName i) tYes te ii σ H Q := h
/-- over range(n), of an element that changes nothing -/
theorem lcRr {n i : Nat} {ii : List Nat} {te : TE} {σ : L2.St} {H1 : Hp} {Q : VK} (ys : Nat → V) (hi : ii = [i]) (hl : n ≤ 100000)
    (ht : ∀ k, k < n → ∀ (H2 : Hp) (Q' : VK), Same H1 H2 → Q' (ys k) H2 → te ((wipe σ [i]).set i (some (.int (0 + (k : Int))))) H2 Q') (q : ∀ D H2, Same H1 H2 → H2 D = some (.lst ((List.range n).map ys)) → Q (.ref D) H2) : LcJ (Itr 0 n) i ii te σ H1 Q := by
  subst hi
  intro D hD
  refine lc_it walk_range (fun k H2 => Same H1 H2 ∧ H2 D = some (.lst ((List.range k).map ys))) ⟨same_new hD, upd_same⟩ (fun _ _ _ _ => trivial) (fun k x H H' hk p hy => ?_) fun H2 p => q D H2 p.1 p.2
  obtain ⟨rfl, rfl⟩ := hy
  refine ⟨by show List.set (List.set (List.set σ i none) i _) i none = List.set σ i none; rw [List.set_set, List.set_set], iteT (B := Same H1 H' ∧ H' D = some (.lst ((List.range (k + 1)).map ys))) (ht k hk H' _ p.1 ⟨_, p.2, ?_, ?_, ?_⟩)⟩
  · rw [List.length_map, List.length_range]
    exact Nat.lt_of_lt_of_le (show k < 100001 by omega) (by decide)
  · intro b o e
    rw [upd_ne (ne_of_none e hD)]
    exact p.1 b o e
  · rw [upd_same, List.range_succ, List.map_append]
    rfl
end K15

namespace K15
open PySem PySem.Spec PyProof.Rows L2
local macro_rules | `(tactic| walk_at "rd1") => `(tactic| first
  | (with_reducible refine Rd.seq ?_) | (with_reducible refine Rd.asg ?_) | (with_reducible refine Rd.ret ?_) | (with_reducible refine Rd.nxt ?_) | (with_reducible refine Rd.ifS ?_)
  | (with_reducible refine Rd.op ?_) | (with_reducible refine Rd.un ?_) | (with_reducible refine Rd.cb ?_) | (with_reducible refine Rd.cons ?_) | (with_reducible refine Rd.nil ?_) | (with_reducible refine Rd.ifx ?_)
  | (with_reducible refine Rd.test ?_) | (with_reducible refine Rd.testB ?_) | (with_reducible refine Rd.notT ?_) | (with_reducible refine Rd.isB ?_) | (with_reducible refine Rd.lst ?_) | (with_reducible refine Rd.tup ?_)
  | (with_reducible refine Rd.call ?_) | (with_reducible refine lcQ ?_) | (with_reducible refine lcQr ?_) | (with_reducible refine Rd.asgG ?_) | (with_reducible refine Rd.gNm ?_) | (with_reducible refine Rd.gSb ?_) | (with_reducible refine Rd.gC ?_) | (with_reducible refine Rd.gN ?_)
  | ((with_reducible refine' Rd.var ?hv ?_); (case hv => exact rfl)) | (with_reducible refine Rd.c ?_) | (with_reducible refine Rd.i0 ?_) | (with_reducible refine Rd.neg ?_)
  | ((with_reducible refine' Rd.iC ?hc ?_); (case hc => first | (show (0 : Int) < _; decide) | exact ⟨by decide, by decide⟩ | exact ⟨by decide, by decide, by decide⟩ | exact .inl ⟨by decide, by decide⟩ | exact .inr ⟨by decide, by decide⟩ | exact .inl ⟨by omega, by omega⟩ | (show (0 : Int) < _; omega) | exact ⟨by omega, by omega⟩))
  | ((with_reducible refine' Rd.eqS ?hc ?_); (case hc => rfl)) | ((with_reducible refine' Rd.neS ?hc ?_); (case hc => rfl)))
local macro_rules | `(tactic| walk_at "rd") => `(tactic| repeat walk_at "rd1")


abbrev sSr : Stmt := top 48
def spSr (K : PySem.W.Frag) : Sp := fun vs H Q _ => ∃ (l : Addr) (as : List Addr) (v u : V) (dv du : PyData), vs = [.ref l, v, u] ∧ H l = some (.lst (as.map V.ref)) ∧ Errs K H v u as rows ∧ Dd K H v dv ∧ Dd K H u du ∧ good dv ∧ good du ∧ ∀ H', Same H H' → Q (.bl true) H'
theorem sc_sr : FnScope ["_law_some", "_law_first", "_law_more", "_law_at", "_law_one", "_law_way", "_law_spot"] ["_law_some", "_law_first", "_law_more"] (defScope sSr) := ⟨rfl, rfl, rfl, by decide +kernel, rfl, by decide +kernel, by decide +kernel⟩
def clsB (r : Ec) : List Bool := rows.map fun q => r.at_ == q.at_
def basB (r : Ec) : List Bool := ([0, 1, 2, 3].map fun v => r.way == v) ++ [0, 1, 2, 3].map fun v => r.way == v
def spots (n : Nat) (i : Int) : List Bool := (List.range n).map fun (k : Nat) => decide (i = 0 + (k : Int))
def wayOf (i : Nat) : Nat := if i < 21 then 0 else if i < 25 then 1 else if i < 31 then 2 else 3
theorem rows_32 : rows.length = 32 := by rw [rows_lit]; rfl
theorem cls_row : ∀ i < 32, ∀ r, rows[i]? = some r → clsB r = spots 32 (i : Nat) := by
  have : (List.range 32).all (fun i => match rows[i]? with | some r => clsB r == spots 32 (i : Nat) | none => true) = true := by decide +kernel
  intro i hi r hr
  have := List.all_eq_true.mp this i (List.mem_range.mpr hi)
  rw [hr] at this
  exact eq_of_beq this
theorem bas_row : ∀ i < 32, ∀ r, rows[i]? = some r → basB r = spots 4 (wayOf i : Nat) ++ spots 4 (wayOf i : Nat) := by
  have : (List.range 32).all (fun i => match rows[i]? with | some r => basB r == spots 4 (wayOf i : Nat) ++ spots 4 (wayOf i : Nat) | none => true) = true := by decide +kernel
  intro i hi r hr
  have := List.all_eq_true.mp this i (List.mem_range.mpr hi)
  rw [hr] at this
  exact eq_of_beq this
theorem clsL_eq (r : Ec) : clsL r = (clsB r).map V.bl := by
  rw [clsL, clsB, List.map_map]
  rfl
theorem basL_eq (r : Ec) : basL r = (basB r).map V.bl := by
  rw [basL, basB, List.map_append, List.map_map]
  rfl
theorem spots_eq (n : Nat) (i : Int) : (List.range n).map (fun (k : Nat) => V.bl (decide (V.int i = V.int (0 + (k : Int))))) = (spots n i).map V.bl := by
  rw [spots, List.map_map]
  refine List.map_congr_left fun k _ => ?_
  simp
theorem flat2 {α : Type} (l : List α) : (List.replicate (Int.toNat 2) l).flatten = l ++ l := by
  show (List.replicate 2 l).flatten = _
  simp [List.replicate]
theorem Errs.len {K : PySem.W.Frag} {H : Hp} {v u : V} : ∀ {as : List Addr} {rs : List Ec}, Errs K H v u as rs → as.length = rs.length
  | _, _, .nil => rfl
  | _, _, .cons _ t => congrArg Nat.succ (Errs.len t)
theorem way_rd {σ : L2.St} {H : Hp} {Q : VK} {i : Nat} (h : σ[3]? = some (some (V.int (i : Nat)))) (q : Q (.int (wayOf i : Nat)) H) :
    tIf (tTest (tOp (rI0 fun i j => V.bl (decide (i < j))) (tVar 3) (tC (V.int 21)))) (tC (V.int 0)) (tIf (tTest (tOp (rI0 fun i j => V.bl (decide (i < j))) (tVar 3) (tC (V.int 25)))) (tC (V.int 1))
      (tIf (tTest (tOp (rI0 fun i j => V.bl (decide (i < j))) (tVar 3) (tC (V.int 31)))) (tC (V.int 2)) (tC (V.int 3)))) σ H Q := by
  unfold wayOf at q
  refine Rd.ifx (Rd.test (Rd.op (Rd.var h (Rd.c (Rd.i0 (Rd.isB (Rd.ifB (fun e => ?_) fun e => ?_)))))))
  · have e := of_decide_eq_true e
    rw [if_pos (by omega)] at q
    exact q
  have e := of_decide_eq_false e
  rw [if_neg (by omega)] at q
  refine Rd.ifx (Rd.test (Rd.op (Rd.var h (Rd.c (Rd.i0 (Rd.isB (Rd.ifB (fun e => ?_) fun e => ?_)))))))
  · have e := of_decide_eq_true e
    rw [if_pos (by omega)] at q
    exact q
  have e := of_decide_eq_false e
  rw [if_neg (by omega)] at q
  refine Rd.ifx (Rd.test (Rd.op (Rd.var h (Rd.c (Rd.i0 (Rd.isB (Rd.ifB (fun e => ?_) fun e => ?_)))))))
  · have e := of_decide_eq_true e
    rw [if_pos (by omega)] at q
    exact q
  have e := of_decide_eq_false e
  rw [if_neg (by omega)] at q
  exact q
section
variable {P : Program} {w : World} {K : PySem.W.Frag} {mg : Str → Option Value} {base : Heap} {f fH fU fC fB : Addr} {fd fdH fdU fdC fdB : FuncData}
theorem ok_sr (F : FnP K "_law_some_right" sSr f fd) (T : Cl K mg) (FH : FnP K "_law_held" sHeld fH fdH) (FU : FnP K "_law_due" sDue fU fdU) (FC : FnP K "_law_classes" sCls fC fdC) (FB : FnP K "_law_bases" sBas fB fdB)
    (GH : FnOk P w K mg base CX0 1 fH fdH ["_law_some"] (spHeld K)) (GU : FnOk P w K mg base CX0 1 fU fdU ["_law_first", "_law_more"] spDue) (GC : FnOk P w K mg base CX0 1 fC fdC ["_law_one"] (spCls K clsL)) (GB : FnOk P w K mg base CX0 1 fB fdB ["_law_one"] (spCls K basL))
    (hH : mg "_law_held" = some (.ref fH)) (hU : mg "_law_due" = some (.ref fU)) (hC : mg "_law_classes" = some (.ref fC)) (hB : mg "_law_bases" = some (.ref fB)) (gRepr : mg "repr" = none) (gRange : mg "range" = none) (gEnum : mg "enumerate" = none) (sm : smOk K = true) :
    FnG P w K mg base CX0 2 f fd ["_law_some", "_law_first", "_law_more"] (spSr K) := by
  have bH : Binds K fdH ["_law_some"] [] := FH.bindsN fun _ _ _ _ _ _ us hl => match us, hl with | [_], _ => rfl
  have bU : Binds K fdU ["_law_first", "_law_more"] [] := FU.bindsN fun _ _ _ _ _ _ us hl => match us, hl with | [_, _], _ => rfl
  have bC : Binds K fdC ["_law_one"] [] := FC.bindsN fun _ _ _ _ _ _ us hl => match us, hl with | [_], _ => rfl
  have bB : Binds K fdB ["_law_one"] [] := FB.bindsN fun _ _ _ _ _ _ us hl => match us, hl with | [_], _ => rfl
  refine F.okG sc_sr (fun vs H Q E h => ?_) (fun cdv A outer s H vs Q E hgu hr h => ?_)
  · obtain ⟨l, as, v, u, dv, du, rfl, _⟩ := h
    rfl
  · obtain ⟨l, as, v, u, dv, du, rfl, hl, he, hv, hu, gv, gu, q⟩ := h
    have hun : (A.deeper (envOfC "_law_some_right" (defScope sSr) s.heap.objs.size f cdv)).units + 64 < cLine := by
      have := hr.un
      omega
    refine ⟨_, PSs.nox (pss_cons (ps_if (pt_cmpR op_ne (pe_callB (call_reprD hgu hun sm) rfl gRepr (by decide +kernel) (pa_cons (pe_call GH hr rfl hH FH.kp bH .nil pass0 (pa_cons (pv 0) pa_nil)) pa_nil)) (pe_callB (call_reprD hgu hun sm) rfl gRepr (by decide +kernel) (pa_cons (pe_call GU hr rfl hU FU.kp bU .nil pass0 (pa_cons (pv 1) (pa_cons (pv 2) pa_nil))) pa_nil)) (nomark _)) (pss_one (ps_ret pe_bl)) pss_nil)
      (pss_cons (ps_for PassesOwn.never rfl (pi_enum rfl gEnum (pa_cons (pv 0) pa_nil)) (pg_tup rfl (pgs_cons (pg_name (i := 3) sc_sr.nd rfl (Or.inr rfl)) (pgs_cons (pg_name (i := 4) sc_sr.nd rfl (Or.inl rfl)) pgs_nil)))
        (pss_cons (ps_if (pt_cmpR (op_neD hun) (pe_call GC hr rfl hC FC.kp bC .nil pass0 (pa_cons (pv 4) pa_nil)) (pe_lc (own := [("_law_spot", 6)]) (g := gName 6) (tt := tYes) (te := tOp rEq (tVar 3) (tVar 6)) rfl sc_sr.nd (pi_range1 rfl gRange (pa_cons pe_int pa_nil)) (blkOk_by (N := ["_law_some", "_law_first", "_law_more", "_law_at", "_law_one", "_law_way", "_law_spot"]) (sc := defScope sSr) (by decide +kernel)) (fun _ _ _ _ _ => by exact pg_name (i := 6) sc_sr.nd rfl (Or.inl rfl)) (fun _ _ _ _ _ => by exact pts_nil) (fun _ _ _ _ _ => by exact pe_cmpR op_eq (pv 3) (pv 6) (nomark _))) (nomark _)) (pss_one (ps_ret pe_bl)) pss_nil)
        (pss_cons (ps_set (i := 5) sc_sr.nd rfl (Or.inr rfl) (pe_ifExp (pt_cmpR op_lt (pv 3) pe_int (nomark _)) pe_int (pe_ifExp (pt_cmpR op_lt (pv 3) pe_int (nomark _)) pe_int (pe_ifExp (pt_cmpR op_lt (pv 3) pe_int (nomark _)) pe_int pe_int))))
        (pss_one (ps_if (pt_cmpR (op_neD hun) (pe_call GB hr rfl hB FB.kp bB .nil pass0 (pa_cons (pv 4) pa_nil)) (pe_op op_rep (pe_lc (own := [("_law_spot", 6)]) (g := gName 6) (tt := tYes) (te := tOp rEq (tVar 5) (tVar 6)) rfl sc_sr.nd (pi_range1 rfl gRange (pa_cons pe_int pa_nil)) (blkOk_by (N := ["_law_some", "_law_first", "_law_more", "_law_at", "_law_one", "_law_way", "_law_spot"]) (sc := defScope sSr) (by decide +kernel)) (fun _ _ _ _ _ => by exact pg_name (i := 6) sc_sr.nd rfl (Or.inl rfl)) (fun _ _ _ _ _ => by exact pts_nil) (fun _ _ _ _ _ => by exact pe_cmpR op_eq (pv 5) (pv 6) (nomark _))) pe_int) (nomark _)) (pss_one (ps_ret pe_bl)) pss_nil)))))
      (pss_one (ps_ret pe_bl)))), ?_⟩
    walk_at "rd"
    refine ⟨l, as, v, u, rfl, hl, he, fun p1 H1 s1 h1 => ?_⟩
    have gg := held_fit gv gu
    have h100 : (PyData.list (heldD dv du)).shown.length ≤ sizeLine := Nat.le_trans gg.2.2 (by decide)
    have h20 : (PyData.list (heldD dv du)).depth ≤ 20 := Nat.le_trans gg.2.1 (by decide)
    walk_at "rd"
    refine ⟨p1, _, rfl, .lst h1 (held_dds (hv.same s1) (hu.same s1)), gg.1, h20, h100, ?_⟩
    walk_at "rd"
    refine ⟨v, u, rfl, fun p2 H2 s2 h2 => ?_⟩
    walk_at "rd"
    refine ⟨p2, _, rfl, .lst h2 (held_dds (hv.same (s1.trans s2)) (hu.same (s1.trans s2))), gg.1, h20, h100, ?_⟩
    walk_at "rd"
    refine Rd.ifB (fun e => by simp at e) (fun _ => ?_)
    walk_at "rd"
    have s3 := s1.trans s2
    replace hl := s3 _ _ hl
    replace he := he.same s3
    clear h1 h2
    refine ⟨V.ref l, rfl, l, _, rfl, SqL.of hl, ?_⟩
    refine for_it walk_enum (fun i σ H' => (∃ a b c d e f g, σ = [a, b, c, d, e, f, g]) ∧ Same H2 H') ⟨⟨_, _, _, _, _, _, _, rfl⟩, Same.refl _⟩ (fun i σ H' _ h => SqL.of (h.2 _ _ hl)) (fun i x σ H' G hi h hy => ?_) (fun σ H' h => ?_)
    · obtain ⟨⟨a, b, c, d, e, f1, g, rfl⟩, z⟩ := h
      obtain ⟨T1, x1, y1, rfl, hT, rfl, e1, e2⟩ := hy
      cases e1
      have z1 := z.trans (same_new (o := HO.tup [V.int (i : Nat), y1]) hT)
      refine ⟨T1, _, rfl, SqT.of upd_same, rfl, ?_⟩
      generalize upd H' T1 (HO.tup [V.int (i : Nat), y1]) = G at z1 ⊢
      have hi2 : i < as.length := by simpa using hi
      rw [he.len, rows_32] at hi2
      obtain ⟨r, hr2⟩ : ∃ r, rows[i]? = some r := ⟨_, List.getElem?_eq_getElem (by rw [rows_32]; exact hi2)⟩
      obtain ⟨a1, ha1, er⟩ := he.get hr2
      replace e2 : (as.map V.ref)[i]? = some y1 := e2
      rw [List.getElem?_map, ha1] at e2
      cases e2
      have er0 := er.same z1
      walk_at "rd"
      refine ⟨a1, r, v, u, rfl, List.mem_of_getElem? hr2, er0, fun p3 H3 s3 h3 => ?_⟩
      walk_at "rd"
      refine ⟨_, rfl, by decide, by decide, lcRr (fun (k : Nat) => V.bl (decide (V.int (i : Nat) = V.int (0 + (k : Int))))) rfl (by show 32 ≤ 100000; decide) (fun k hk H4 Q' s4 q' => ?_) (fun p4 H4 s4 h4 => ?_)⟩
      · walk_at "rd"
        exact q'
      have h4' : H4 p4 = some (.lst ((spots 32 (i : Nat)).map V.bl)) := h4.trans (by rw [← spots_eq]; rfl)
      refine ne_bools (bs := spots 32 (i : Nat)) (by rw [s4 _ _ h3, clsL_eq, cls_row i hi2 r hr2]) h4' ?_
      walk_at "rd"
      refine iteF ?_
      refine Rd.seq (Rd.asg (way_rd rfl ?_))
      walk_at "rd"
      have z4 := z1.trans (s3.trans s4)
      refine ⟨a1, r, v, u, rfl, List.mem_of_getElem? hr2, er.same z4, fun p5 H5 s5 h5 => ?_⟩
      walk_at "rd"
      refine ⟨_, rfl, by decide, by decide, lcRr (fun (k : Nat) => V.bl (decide (V.int (wayOf i : Nat) = V.int (0 + (k : Int))))) rfl (by show 4 ≤ 100000; decide) (fun k hk H6 Q' s6 q' => ?_) (fun p6 H6 s6 h6 => ?_)⟩
      · walk_at "rd"
        exact q'
      have h6' : H6 p6 = some (.lst ((spots 4 (wayOf i : Nat)).map V.bl)) := h6.trans (by rw [← spots_eq]; rfl)
      walk_at "rd"
      refine ⟨_, _, _, rfl, rfl, h6', by decide, by decide, by simp only [List.length_map, spots, List.length_range]; decide, fun p7 h7 => ?_⟩
      have h5' : H6 p5 = some (.lst ((spots 4 (wayOf i : Nat) ++ spots 4 (wayOf i : Nat)).map V.bl)) := by rw [s6 _ _ h5, basL_eq, bas_row i hi2 r hr2]
      refine ne_bools (bs := spots 4 (wayOf i : Nat) ++ spots 4 (wayOf i : Nat)) (same_new h7 _ _ h5') (upd_same.trans (by rw [flat2, List.map_append])) ?_
      walk_at "rd"
      refine iteF ?_
      exact ⟨⟨_, _, _, _, _, _, _, rfl⟩, z4.trans (s5.trans (s6.trans (same_new h7)))⟩
    · exact q _ (s3.trans h.2)
end
end K15

namespace K15
open PySem PySem.Spec PyProof.Rows L2
local macro_rules | `(tactic| walk_at "rd1") => `(tactic| first
  | (with_reducible refine Rd.seq ?_) | (with_reducible refine Rd.asg ?_) | (with_reducible refine Rd.ret ?_) | (with_reducible refine Rd.nxt ?_) | (with_reducible refine Rd.ifS ?_)
  | (with_reducible refine Rd.op ?_) | (with_reducible refine Rd.un ?_) | (with_reducible refine Rd.cb ?_) | (with_reducible refine Rd.cons ?_) | (with_reducible refine Rd.nil ?_) | (with_reducible refine Rd.ifx ?_)
  | (with_reducible refine Rd.test ?_) | (with_reducible refine Rd.testB ?_) | (with_reducible refine Rd.notT ?_) | (with_reducible refine Rd.isB ?_) | (with_reducible refine Rd.lst ?_) | (with_reducible refine Rd.tup ?_)
  | (with_reducible refine Rd.call ?_) | (with_reducible refine lcQ ?_) | (with_reducible refine lcQr ?_) | (with_reducible refine Rd.asgG ?_) | (with_reducible refine Rd.gNm ?_) | (with_reducible refine Rd.gSb ?_) | (with_reducible refine Rd.gC ?_) | (with_reducible refine Rd.gN ?_)
  | ((with_reducible refine' Rd.var ?hv ?_); (case hv => exact rfl)) | (with_reducible refine Rd.c ?_) | (with_reducible refine Rd.i0 ?_) | (with_reducible refine Rd.neg ?_)
  | ((with_reducible refine' Rd.iC ?hc ?_); (case hc => first | (show (0 : Int) < _; decide) | exact ⟨by decide, by decide⟩ | exact ⟨by decide, by decide, by decide⟩ | exact .inl ⟨by decide, by decide⟩ | exact .inr ⟨by decide, by decide⟩ | exact .inl ⟨by omega, by omega⟩ | (show (0 : Int) < _; omega) | exact ⟨by omega, by omega⟩))
  | ((with_reducible refine' Rd.eqS ?hc ?_); (case hc => rfl)) | ((with_reducible refine' Rd.neS ?hc ?_); (case hc => rfl)))
local macro_rules | `(tactic| walk_at "rd") => `(tactic| repeat walk_at "rd1")


abbrev sCau : Stmt := top 49
def caughtAs : Nat → Str
  | 0 => "fill"
  | 1 => "missing"
  | 2 => "state"
  | _ => "limit"
def spCau : Sp := fun vs H Q _ => ∃ (k : Nat) (v : V), vs = [.int k, v] ∧ k < 4 ∧ ∀ p H', Same H H' → H' p = some (.tup [.str (caughtAs k), v]) → Q (.ref p) H'
theorem sc_cau : FnScope ["_law_way", "_law_thing", "e"] ["_law_way", "_law_thing"] (defScope sCau) := ⟨rfl, rfl, rfl, by decide +kernel, rfl, by decide +kernel, by decide +kernel⟩
/-- what matches an except clause -/
def Ex (K : PySem.W.Frag) : Prop := ∀ p ∈ ([("InvalidFill", 0), ("UnknownName", 1), ("NotFull", 2), ("TooMany", 3)] : List (Str × Nat)), ∀ q ∈ ([("InvalidFill", 0), ("MissingError", 1), ("StateError", 2), ("LimitError", 3)] : List (Str × Nat)),
  PySem.W.exmOne K (.ref (He.ga K p.1)) (.ref (He.ga K q.1)) = some (p.2 == q.2)
section
variable {K : PySem.W.Frag} {H : Hp} {σ : L2.St} {Q : XK} {C : Addr} {f g : Str} {i j : Nat} {v u : V}
theorem gone {H2 G : Hp} {a d : Addr} {o : HO} (h : Same H G) (ha : H a = none) (hd : H d = none) : Same H (upd (del G a) d o) := fun b z e => by
  rw [upd_ne (ne_of_none e hd), del_ne (ne_of_none e ha)]
  exact h b z e
theorem old_new {a d : Addr} {o : HO} (hd : upd H a o d = none) (ne : d ≠ a) : H d = none := by rwa [upd_ne ne] at hd
theorem rr_1 (hi : σ[i]? = some (some v)) (h : ∀ d G, Same H G → G d = some (.xd [(f, v)]) → Q (.ref C) (some d) G) : tMkR C (sp1 C f) (tCons (tVar i) tNil) σ H Q := by
  refine ⟨v, hi, by show 1 ≤ 1000; decide, fun a ha => ⟨a, v, rfl, upd_same, fun d hd ne => ⟨rfl, d, [(f, v)], upd_same, ?_, old_new hd ne, h d _ (gone (H2 := H) (made1 ha hd ne) ha (old_new hd ne)) upd_same⟩⟩⟩
  rw [upd_ne ne, upd_same]
theorem rr_2 (hi : σ[i]? = some (some v)) (hj : σ[j]? = some (some u)) (h : ∀ d G, Same H G → G d = some (.xd [(g, u), (f, v)]) → Q (.ref C) (some d) G) : tMkR C (sp2 C f g) (tCons (tVar i) (tCons (tVar j) tNil)) σ H Q := by
  refine ⟨v, hi, u, hj, by show 2 ≤ 1000; decide, fun a ha => ⟨a, v, u, rfl, upd_same, fun d hd ne => ⟨rfl, d, [(g, u), (f, v)], ?_, upd_same, old_new hd ne, h d _ (gone (H2 := H) (fun b z e => ?_) ha (old_new hd ne)) upd_same⟩⟩⟩
  · rw [upd_ne ne.symm, upd_same]
  · rw [upd_ne (ne_of_none e (old_new hd ne))]
    exact made1 ha hd ne b z e
theorem rd_xdf {Q : VK} {a dd : Addr} {fs : List (Str × V)} (hv : σ[i]? = some (some (.ref a))) (T : XC K C) (hno : PySem.W.findIn K (.ref C) f = some none) (hd : H dd = some (.xd fs)) (hl : fs.lookup f = some v) (q : Q v H) : tXdf K a (.ref C) (some dd) (tVar i) f σ H Q :=
  ⟨_, hv, rfl, C, dd, fs, v, rfl, T, hno, rfl, hd, hl, q⟩
end
section
variable {P : Program} {w : World} {K : PySem.W.Frag} {mg : Str → Option Value} {base : Heap} {f : Addr} {fd : FuncData}
theorem ok_cau (F : FnP K "_law_caught" sCau f fd) (T : Cl K mg) (kt : Kit K mg) (ex : Ex K) : FnOk P w K mg base CX0 3 f fd ["_law_way", "_law_thing"] spCau := by
  have r11 : RowOk K mg ⟨"InvalidFill", 13, 0, ["part", "position"]⟩ := T.row _ (List.mem_of_getElem? (i := 11) rfl)
  obtain ⟨fd11, F11⟩ := T.f_InvalidFill
  have I11 : FnOk P w K mg base CX0 1 _ fd11 ["self", "part", "position"] _ := ini_InvalidFill F11 r11.xc (r11.no "part" (by simp)) (r11.no "position" (by simp))
  have b11 : Binds K fd11 ["self", "part", "position"] [] := F11.bindsN fun _ _ _ _ _ _ us hl => match us, hl with | [_, _, _], _ => rfl
  have r24 : RowOk K mg ⟨"UnknownName", 27, 1, ["value"]⟩ := T.row _ (List.mem_of_getElem? (i := 24) rfl)
  obtain ⟨fd24, F24⟩ := T.f_UnknownName
  have I24 : FnOk P w K mg base CX0 1 _ fd24 ["self", "value"] _ := ini_UnknownName F24 r24.xc (r24.no "value" (by simp))
  have b24 : Binds K fd24 ["self", "value"] [] := F24.bindsN fun _ _ _ _ _ _ us hl => match us, hl with | [_, _], _ => rfl
  have r26 : RowOk K mg ⟨"NotFull", 30, 2, ["column"]⟩ := T.row _ (List.mem_of_getElem? (i := 26) rfl)
  obtain ⟨fd26, F26⟩ := T.f_NotFull
  have I26 : FnOk P w K mg base CX0 1 _ fd26 ["self", "column"] _ := ini_NotFull F26 r26.xc (r26.no "column" (by simp))
  have b26 : Binds K fd26 ["self", "column"] [] := F26.bindsN fun _ _ _ _ _ _ us hl => match us, hl with | [_, _], _ => rfl
  have r31 : RowOk K mg ⟨"TooMany", 36, 3, ["what", "limit"]⟩ := T.row _ (List.mem_of_getElem? (i := 31) rfl)
  obtain ⟨fd31, F31⟩ := T.f_TooMany
  have I31 : FnOk P w K mg base CX0 1 _ fd31 ["self", "what", "limit"] _ := ini_TooMany F31 r31.xc (r31.no "what" (by simp)) (r31.no "limit" (by simp))
  have b31 : Binds K fd31 ["self", "what", "limit"] [] := F31.bindsN fun _ _ _ _ _ _ us hl => match us, hl with | [_, _, _], _ => rfl
  refine F.ok sc_cau (fun vs H Q E h => ?_) (fun cdv A outer s H vs Q E hr h => ?_)
  · obtain ⟨k, v, rfl, _⟩ := h
    rfl
  · obtain ⟨k, v, rfl, hk, q⟩ := h
    refine ⟨_, pss_one (ps_try_cl rfl rfl (fun W pn xe tk _ => (pss_cons (ps_if (pt_cmpR op_eq (pv 0) pe_int (nomark _)) (pss_one (ps_raise rfl tk (pmk_exc r11.xc (r11.ini (by simp)).1 (r11.ini (by simp)).2 I11 hr b11 pass0 rfl r11.g (pa_cons (pv 1) (pa_cons (pv 0) pa_nil))))) pss_nil)
      (pss_cons (ps_if (pt_cmpR op_eq (pv 0) pe_int (nomark _)) (pss_one (ps_raise rfl tk (pmk_exc r24.xc (r24.ini (by simp)).1 (r24.ini (by simp)).2 I24 hr b24 pass0 rfl r24.g (pa_cons (pv 1) pa_nil)))) pss_nil)
      (pss_cons (ps_if (pt_cmpR op_eq (pv 0) pe_int (nomark _)) (pss_one (ps_raise rfl tk (pmk_exc r26.xc (r26.ini (by simp)).1 (r26.ini (by simp)).2 I26 hr b26 pass0 rfl r26.g (pa_cons (pv 1) pa_nil)))) pss_nil)
      (pss_one (ps_raise rfl tk (pmk_exc r31.xc (r31.ini (by simp)).1 (r31.ini (by simp)).2 I31 hr b31 pass0 rfl r31.g (pa_cons (pv 1) (pa_cons (pv 0) pa_nil)))))))))
      (clauses_as (i := 2) rfl rfl sc_cau.nd rfl rfl ⟨rfl, by decide, .inl r11.g⟩ (fun a oe cls d pn hz hf => pss_one (ps_ret (pe_tup (pa_cons pe_str (pa_cons (pe_xdf hz hf (pv 2)) pa_nil))))) (clauses_as (i := 2) rfl rfl sc_cau.nd rfl rfl ⟨rfl, by decide, .inl (kt.gb 1 (by simp))⟩ (fun a oe cls d pn hz hf => pss_one (ps_ret (pe_tup (pa_cons pe_str (pa_cons (pe_xdf hz hf (pv 2)) pa_nil))))) (clauses_as (i := 2) rfl rfl sc_cau.nd rfl rfl ⟨rfl, by decide, .inl (kt.gb 2 (by simp))⟩ (fun a oe cls d pn hz hf => pss_one (ps_ret (pe_tup (pa_cons pe_str (pa_cons (pe_xdf hz hf (pv 2)) pa_nil))))) (clauses_as (i := 2) rfl rfl sc_cau.nd rfl rfl ⟨rfl, by decide, .inl (kt.gb 3 (by simp))⟩ (fun a oe cls d pn hz hf => pss_one (ps_ret (pe_tup (pa_cons pe_str (pa_cons (pe_xdf hz hf (pv 2)) pa_nil))))) (clauses_nil rfl takes0)))))), ?_⟩
    have : k = 0 ∨ k = 1 ∨ k = 2 ∨ k = 3 := by omega
    rcases this with rfl | rfl | rfl | rfl
    · walk_at "rd"
      refine Rd.ifB (fun _ => ?_) (fun e => by simp at e)
      refine' rr_2 ?h1 ?h2 (fun d G s1 g1 => ?_)
      case h1 => rfl
      case h2 => rfl
      refine ⟨_, ex ("InvalidFill", 0) (by simp) ("InvalidFill", 0) (by simp), fun _ a ha => ?_, fun e => by simp at e⟩
      walk_at "rd"
      refine rd_xdf rfl r11.xc (r11.no _ (by simp)) g1 rfl ?_
      walk_at "rd"
      exact ⟨Rd.small (by show 2 ≤ 100000; decide), fun p hp => q p _ (s1.trans (same_new hp)) upd_same⟩
    · walk_at "rd"
      refine Rd.ifB (fun e => by simp at e) (fun _ => ?_)
      walk_at "rd"
      refine Rd.ifB (fun _ => ?_) (fun e => by simp at e)
      refine' rr_1 ?h1 (fun d G s1 g1 => ?_)
      case h1 => rfl
      refine ⟨_, ex ("UnknownName", 1) (by simp) ("InvalidFill", 0) (by simp), fun e => by simp at e, fun _ => ?_⟩
      refine ⟨_, ex ("UnknownName", 1) (by simp) ("MissingError", 1) (by simp), fun _ a ha => ?_, fun e => by simp at e⟩
      walk_at "rd"
      refine rd_xdf rfl r24.xc (r24.no _ (by simp)) g1 rfl ?_
      walk_at "rd"
      exact ⟨Rd.small (by show 2 ≤ 100000; decide), fun p hp => q p _ (s1.trans (same_new hp)) upd_same⟩
    · walk_at "rd"
      refine Rd.ifB (fun e => by simp at e) (fun _ => ?_)
      walk_at "rd"
      refine Rd.ifB (fun e => by simp at e) (fun _ => ?_)
      walk_at "rd"
      refine Rd.ifB (fun _ => ?_) (fun e => by simp at e)
      refine' rr_1 ?h1 (fun d G s1 g1 => ?_)
      case h1 => rfl
      refine ⟨_, ex ("NotFull", 2) (by simp) ("InvalidFill", 0) (by simp), fun e => by simp at e, fun _ => ?_⟩
      refine ⟨_, ex ("NotFull", 2) (by simp) ("MissingError", 1) (by simp), fun e => by simp at e, fun _ => ?_⟩
      refine ⟨_, ex ("NotFull", 2) (by simp) ("StateError", 2) (by simp), fun _ a ha => ?_, fun e => by simp at e⟩
      walk_at "rd"
      refine rd_xdf rfl r26.xc (r26.no _ (by simp)) g1 rfl ?_
      walk_at "rd"
      exact ⟨Rd.small (by show 2 ≤ 100000; decide), fun p hp => q p _ (s1.trans (same_new hp)) upd_same⟩
    · walk_at "rd"
      refine Rd.ifB (fun e => by simp at e) (fun _ => ?_)
      walk_at "rd"
      refine Rd.ifB (fun e => by simp at e) (fun _ => ?_)
      walk_at "rd"
      refine Rd.ifB (fun e => by simp at e) (fun _ => ?_)
      walk_at "rd"
      dsimp only
      refine' rr_2 ?h1 ?h2 (fun d G s1 g1 => ?_)
      case h1 => rfl
      case h2 => rfl
      refine ⟨_, ex ("TooMany", 3) (by simp) ("InvalidFill", 0) (by simp), fun e => by simp at e, fun _ => ?_⟩
      refine ⟨_, ex ("TooMany", 3) (by simp) ("MissingError", 1) (by simp), fun e => by simp at e, fun _ => ?_⟩
      refine ⟨_, ex ("TooMany", 3) (by simp) ("StateError", 2) (by simp), fun e => by simp at e, fun _ => ?_⟩
      refine ⟨_, ex ("TooMany", 3) (by simp) ("LimitError", 3) (by simp), fun _ a ha => ?_, fun e => by simp at e⟩
      walk_at "rd"
      refine rd_xdf rfl r31.xc (r31.no _ (by simp)) g1 rfl ?_
      walk_at "rd"
      exact ⟨Rd.small (by show 2 ≤ 100000; decide), fun p hp => q p _ (s1.trans (same_new hp)) upd_same⟩
end
end K15

namespace K15
open PySem PySem.Spec PyProof.Rows L2
local macro_rules | `(tactic| walk_at "rd1") => `(tactic| first
  | (with_reducible refine Rd.seq ?_) | (with_reducible refine Rd.asg ?_) | (with_reducible refine Rd.ret ?_) | (with_reducible refine Rd.nxt ?_) | (with_reducible refine Rd.ifS ?_)
  | (with_reducible refine Rd.op ?_) | (with_reducible refine Rd.un ?_) | (with_reducible refine Rd.cb ?_) | (with_reducible refine Rd.cons ?_) | (with_reducible refine Rd.nil ?_) | (with_reducible refine Rd.ifx ?_)
  | (with_reducible refine Rd.test ?_) | (with_reducible refine Rd.testB ?_) | (with_reducible refine Rd.notT ?_) | (with_reducible refine Rd.isB ?_) | (with_reducible refine Rd.lst ?_) | (with_reducible refine Rd.tup ?_)
  | (with_reducible refine Rd.call ?_) | (with_reducible refine lcQ ?_) | (with_reducible refine lcQr ?_) | (with_reducible refine Rd.asgG ?_) | (with_reducible refine Rd.gNm ?_) | (with_reducible refine Rd.gSb ?_) | (with_reducible refine Rd.gC ?_) | (with_reducible refine Rd.gN ?_)
  | ((with_reducible refine' Rd.var ?hv ?_); (case hv => exact rfl)) | (with_reducible refine Rd.c ?_) | (with_reducible refine Rd.i0 ?_) | (with_reducible refine Rd.neg ?_)
  | ((with_reducible refine' Rd.iC ?hc ?_); (case hc => first | (show (0 : Int) < _; decide) | exact ⟨by decide, by decide⟩ | exact ⟨by decide, by decide, by decide⟩ | exact .inl ⟨by decide, by decide⟩ | exact .inr ⟨by decide, by decide⟩ | exact .inl ⟨by omega, by omega⟩ | (show (0 : Int) < _; omega) | exact ⟨by omega, by omega⟩))
  | ((with_reducible refine' Rd.eqS ?hc ?_); (case hc => rfl)) | ((with_reducible refine' Rd.neS ?hc ?_); (case hc => rfl)))
local macro_rules | `(tactic| walk_at "rd") => `(tactic| repeat walk_at "rd1")


abbrev sRight : Stmt := top 50
def spRight : Sp := fun vs H Q _ => ∃ p : Addr, vs = [.ref p] ∧ PotAt H p ∧ ∀ H', PotAt H' p → But p H H' → Q (.bl true) H'
theorem sc_right : FnScope ["_law_pot_here", "_law_first", "_law_more", "_law_told", "_law_way"] ["_law_pot_here"] (defScope sRight) := ⟨rfl, rfl, rfl, by decide +kernel, rfl, by decide +kernel, by decide +kernel⟩
/-! ### what is told -/
theorem caught_text : ∀ k, (reprText (caughtAs k)).length ≤ 20
  | 0 => by decide +kernel
  | 1 => by decide +kernel
  | 2 => by decide +kernel
  | _ + 3 => by show (reprText "limit").length ≤ 20; decide +kernel
theorem pair_fit {k : Nat} {d : PyData} (h : good d) : (PyData.tuple [.str (caughtAs k), d]).showable = true ∧ (PyData.tuple [.str (caughtAs k), d]).depth ≤ 4 ∧ (PyData.tuple [.str (caughtAs k), d]).shown.length ≤ 124 := by
  obtain ⟨a, b, c⟩ := h
  refine ⟨by simp [PyData.showable, PyData.showableAll, a], by simp [PyData.depth, PyData.depthAll]; omega, ?_⟩
  simp only [PyData.shown, PyData.shownAll]
  unfold tupleText
  rw [Str.length_append, Str.length_append]
  have e := join_length_add [reprText (caughtAs k), d.shown] (by simp)
  have p : piled [reprText (caughtAs k), d.shown] = (reprText (caughtAs k)).length + 2 + (d.shown.length + 2) := by simp [piled]
  have t := caught_text k
  have e1 : (("(" : String) : Str).length = 1 := rfl
  have e2 : ((if ([reprText (caughtAs k), d.shown].length == 1) = true then ",)" else ")" : String) : Str).length = 1 := rfl
  rw [e1, e2]
  omega
def toldD (d : PyData) : PyData := .list [.tuple [.str (caughtAs 0), d], .tuple [.str (caughtAs 1), d], .tuple [.str (caughtAs 2), d], .tuple [.str (caughtAs 3), d]]
theorem told_fit {d : PyData} (h : good d) : (toldD d).showable = true ∧ (toldD d).depth ≤ 5 ∧ (toldD d).shown.length ≤ 126 * 4 + 2 :=
  fit_list (n := 4) (m := 124) fun e he => by
    simp only [List.mem_cons, List.not_mem_nil, or_false] at he
    rcases he with rfl | rfl | rfl | rfl
    · exact pair_fit h
    · exact pair_fit h
    · exact pair_fit h
    · exact pair_fit h
theorem told_dd {K : PySem.W.Frag} {H : Hp} {p a b c e : Addr} {v : V} {d : PyData} (hp : H p = some (.lst [.ref a, .ref b, .ref c, .ref e])) (h0 : H a = some (.tup [.str (caughtAs 0), v])) (h1 : H b = some (.tup [.str (caughtAs 1), v])) (h2 : H c = some (.tup [.str (caughtAs 2), v]))
    (h3 : H e = some (.tup [.str (caughtAs 3), v])) (hv : Dd K H v d) : Dd K H (.ref p) (toldD d) :=
  .lst hp (.cons (.tup h0 (.cons (.str _) (.cons hv .nil))) (.cons (.tup h1 (.cons (.str _) (.cons hv .nil))) (.cons (.tup h2 (.cons (.str _) (.cons hv .nil))) (.cons (.tup h3 (.cons (.str _) (.cons hv .nil))) .nil))))
/-- a comprehension over range(n) whose items are new pairs -/
theorem lcPairs {n i : Nat} {ii : List Nat} {te : TE} {σ : L2.St} {H1 : Hp} {Q : VK} {v : V} (hi : ii = [i]) (hl : n ≤ 100000)
    (ht : ∀ k, k < n → ∀ (H2 : Hp) (Q' : VK), Same H1 H2 → (∀ p H3, Same H2 H3 → H3 p = some (.tup [.str (caughtAs k), v]) → Q' (.ref p) H3) → te ((wipe σ [i]).set i (some (.int (0 + (k : Int))))) H2 Q')
    (q : ∀ (D : Addr) (ts : List Addr) (H2 : Hp), Same H1 H2 → H2 D = some (.lst (ts.map V.ref)) → ts.length = n → (∀ (k : Nat) (t : Addr), ts[k]? = some t → H2 t = some (.tup [.str (caughtAs k), v])) → Q (.ref D) H2) : LcJ (Itr 0 n) i ii te σ H1 Q := by
  subst hi
  intro D hD
  refine lc_it walk_range (fun k H2 => Same H1 H2 ∧ ∃ ts : List Addr, H2 D = some (.lst (ts.map V.ref)) ∧ ts.length = k ∧ ∀ (j : Nat) (t : Addr), ts[j]? = some t → H2 t = some (.tup [.str (caughtAs j), v])) ⟨same_new hD, [], upd_same, rfl, fun j t e => by simp at e⟩ (fun _ _ _ _ => trivial) (fun k x H H' hk p hy => ?_)
    fun H2 ⟨s, ts, a, b, c⟩ => q D ts H2 s a b c
  obtain ⟨rfl, rfl⟩ := hy
  obtain ⟨s1, ts, a1, b1, c1⟩ := p
  refine ⟨by show List.set (List.set (List.set σ i none) i _) i none = List.set σ i none; rw [List.set_set, List.set_set], iteT (B := Same H1 H' ∧ ∃ ts : List Addr, H' D = some (.lst (ts.map V.ref)) ∧ ts.length = k + 1 ∧ ∀ (j : Nat) (t : Addr), ts[j]? = some t → H' t = some (.tup [.str (caughtAs j), v])) ?_⟩
  refine ht k hk H' _ s1 fun p H3 s3 h3 => ⟨_, s3 _ _ a1, ?_, fun b o e => ?_, ts ++ [p], ?_, ?_, fun j t e => ?_⟩
  · rw [List.length_map, b1]
    exact Nat.lt_of_lt_of_le (show k < 100001 by omega) (by decide)
  · rw [upd_ne (ne_of_none e hD)]
    exact s3 _ _ (s1 b o e)
  · rw [upd_same, List.map_append]
    rfl
  · rw [List.length_append, b1]
    rfl
  · have z : H3 t = some (.tup [.str (caughtAs j), v]) := by
      by_cases hj : j < ts.length
      · rw [List.getElem?_append_left hj] at e
        exact s3 _ _ (c1 j t e)
      · have ej : j = k := by
          have := (List.getElem?_eq_some_iff.mp e).1
          rw [List.length_append, List.length_singleton] at this
          omega
        subst ej
        rw [List.getElem?_append_right (by omega), b1, Nat.sub_self] at e
        obtain rfl := Option.some.inj e
        exact h3
    have nt : t ≠ D := fun y => by
      have w := s3 _ _ a1
      rw [← y, z] at w
      cases w
    rw [upd_ne nt]
    exact z
section
variable {P : Program} {w : World} {K : PySem.W.Frag} {mg : Str → Option Value} {base : Heap} {f fO fP fM fS fC : Addr} {fd fdO fdP fdM fdS fdC : FuncData}
theorem ok_right (F : FnP K "_law_right" sRight f fd) (FO : FnP K "_law_odd" sOdd fO fdO) (FP : FnP K "_law_by_position" sByPos fP fdP) (FM : FnP K "_law_by_name" sByName fM fdM) (FS : FnP K "_law_some_right" sSr fS fdS) (FC : FnP K "_law_caught" sCau fC fdC)
    (GO : FnOk P w K mg base CX0 3 fO fdO ["_law_pot_here"] (spOdd K)) (GP : FnOk P w K mg base CX0 3 fP fdP ["_law_first", "_law_more"] (spBy K)) (GM : FnOk P w K mg base CX0 3 fM fdM ["_law_first", "_law_more"] (spBy K))
    (GS : FnG P w K mg base CX0 2 fS fdS ["_law_some", "_law_first", "_law_more"] (spSr K)) (GC : FnOk P w K mg base CX0 3 fC fdC ["_law_way", "_law_thing"] spCau)
    (hO : mg "_law_odd" = some (.ref fO)) (hP : mg "_law_by_position" = some (.ref fP)) (hM : mg "_law_by_name" = some (.ref fM)) (hS : mg "_law_some_right" = some (.ref fS)) (hC : mg "_law_caught" = some (.ref fC))
    (gRepr : mg "repr" = none) (gRange : mg "range" = none) (sm : smOk K = true) : FnG P w K mg base CX0 4 f fd ["_law_pot_here"] spRight := by
  have bO : Binds K fdO ["_law_pot_here"] [] := FO.bindsN fun _ _ _ _ _ _ us hl => match us, hl with | [_], _ => rfl
  have bP : Binds K fdP ["_law_first", "_law_more"] [] := FP.bindsN fun _ _ _ _ _ _ us hl => match us, hl with | [_, _], _ => rfl
  have bM : Binds K fdM ["_law_first", "_law_more"] [] := FM.bindsN fun _ _ _ _ _ _ us hl => match us, hl with | [_, _], _ => rfl
  have bS : Binds K fdS ["_law_some", "_law_first", "_law_more"] [] := FS.bindsN fun _ _ _ _ _ _ us hl => match us, hl with | [_, _, _], _ => rfl
  have bC : Binds K fdC ["_law_way", "_law_thing"] [] := FC.bindsN fun _ _ _ _ _ _ us hl => match us, hl with | [_, _], _ => rfl
  refine F.okG sc_right (fun vs H Q E h => ?_) (fun cdv A outer s H vs Q E hgu hr h => ?_)
  · obtain ⟨p, rfl, _⟩ := h
    rfl
  · obtain ⟨p, rfl, hp, q⟩ := h
    have hun : (A.deeper (envOfC "_law_right" (defScope sRight) s.heap.objs.size f cdv)).units + 64 < cLine := by
      have := hr.un
      omega
    refine ⟨_, PSs.nox (pss_cons (ps_asg (pe_tup (pa_cons (pe_call GO hr rfl hO FO.kp bO .nil pass0 (pa_cons (pv 0) pa_nil)) (pa_cons (pe_call GO hr rfl hO FO.kp bO .nil pass0 (pa_cons (pv 0) pa_nil)) pa_nil))) (pg_tup rfl (pgs_cons (pg_name (i := 1) sc_right.nd rfl (Or.inr rfl)) (pgs_cons (pg_name (i := 2) sc_right.nd rfl (Or.inl rfl)) pgs_nil))))
      (pss_cons (ps_if (pt_not (pt_val (pe_callG GS hgu (hr.mono (by decide)) rfl hS FS.kp bS pass0 (pa_cons (pe_call GP hr rfl hP FP.kp bP .nil pass0 (pa_cons (pv 1) (pa_cons (pv 2) pa_nil))) (pa_cons (pv 1) (pa_cons (pv 2) pa_nil)))))) (pss_one (ps_ret pe_bl)) pss_nil) (pss_cons (ps_if (pt_not (pt_val (pe_callG GS hgu (hr.mono (by decide)) rfl hS FS.kp bS pass0 (pa_cons (pe_call GM hr rfl hM FM.kp bM .nil pass0 (pa_cons (pv 1) (pa_cons (pv 2) pa_nil))) (pa_cons (pv 1) (pa_cons (pv 2) pa_nil)))))) (pss_one (ps_ret pe_bl)) pss_nil)
      (pss_cons (ps_setLc (i := 3) (own := [("_law_way", 4)]) (g := gName 4) (tt := tYes) (te := tCall spCau [] E0 (tCons (tVar 4) (tCons (tVar 1) tNil))) rfl sc_right.nd rfl rfl (sw_true rfl rfl rfl (by decide +kernel)) (pi_range1 rfl gRange (pa_cons pe_int pa_nil)) (blkOk_by (N := ["_law_pot_here", "_law_first", "_law_more", "_law_told", "_law_way"]) (sc := defScope sRight) (by decide +kernel)) (fun _ _ _ _ _ => by exact pg_name (i := 4) sc_right.nd rfl (Or.inl rfl)) (fun _ _ _ _ _ => by exact pts_nil) (fun _ _ _ _ _ => by exact pe_call GC hr rfl hC FC.kp bC .nil pass0 (pa_cons (pv 4) (pa_cons (pv 1) pa_nil))))
      (pss_one (ps_ret (pe_cmpR op_eq (pe_callB (call_reprD hgu hun sm) rfl gRepr (by decide +kernel) (pa_cons (pv 3) pa_nil)) (pe_callB (call_reprD hgu hun sm) rfl gRepr (by decide +kernel) (pa_cons (pe_lst (pa_cons (pe_tup (pa_cons pe_str (pa_cons (pv 1) pa_nil))) (pa_cons (pe_tup (pa_cons pe_str (pa_cons (pv 1) pa_nil))) (pa_cons (pe_tup (pa_cons pe_str (pa_cons (pv 1) pa_nil))) (pa_cons (pe_tup (pa_cons pe_str (pa_cons (pv 1) pa_nil))) pa_nil))))) pa_nil)) (nomark _)))))))), ?_⟩
    walk_at "rd"
    refine ⟨p, rfl, hp, fun v dv H1 hv1 gv hp1 u1 => ?_⟩
    walk_at "rd"
    refine ⟨p, rfl, hp1, fun u du H2 hu2 gu hp2 u2 => ?_⟩
    walk_at "rd"
    refine ⟨Rd.small (by show 2 ≤ 100000; decide), fun a2 h2 => ?_⟩
    have hv : Dd K H2 v dv := hv1.same fun b o e => by
      by_cases hb : b = p
      · rw [hb, del_same] at e
        cases e
      · rw [del_ne hb] at e
        exact u2 b o hb e
    have hu : Dd K H2 u du := hu2.same fun b o e => by
      by_cases hb : b = p
      · rw [hb, del_same] at e
        cases e
      · rwa [del_ne hb] at e
    have z := same_new (o := HO.tup [v, u]) h2
    refine ⟨a2, _, rfl, SqT.of upd_same, rfl, ?_⟩
    generalize upd H2 a2 (HO.tup [v, u]) = H3 at z ⊢
    walk_at "rd"
    refine ⟨v, u, rfl, fun as l H4 s4 l4 e4 => ?_⟩
    walk_at "rd"
    replace z := z.trans s4
    refine ⟨l, as, v, u, dv, du, rfl, l4, e4, hv.same z, hu.same z, gv, gu, fun H5 s5 => ?_⟩
    walk_at "rd"
    refine Rd.ifB (fun e => by simp at e) (fun _ => ?_)
    walk_at "rd"
    refine ⟨v, u, rfl, fun as2 l2 H6 s6 l6 e6 => ?_⟩
    walk_at "rd"
    replace z := (z.trans s5).trans s6
    refine ⟨l2, as2, v, u, dv, du, rfl, l6, e6, hv.same z, hu.same z, gv, gu, fun H7 s7 => ?_⟩
    walk_at "rd"
    refine Rd.ifB (fun e => by simp at e) (fun _ => ?_)
    walk_at "rd"
    refine ⟨_, rfl, by decide, by decide, lcPairs (v := v) rfl (by show 4 ≤ 100000; decide) (fun k hk H8 Q' s8 q' => ?_) (fun D ts H8 s8 h8 l8 t8 => ?_)⟩
    · walk_at "rd"
      exact ⟨k, v, by simp, hk, q'⟩
    obtain ⟨a, b, c, e, rfl⟩ : ∃ a b c e, ts = [a, b, c, e] := match ts, l8 with | [a, b, c, e], _ => ⟨_, _, _, _, rfl⟩
    walk_at "rd"
    replace z := (z.trans s7).trans s8
    have ff := told_fit gv
    have f20 : (toldD dv).depth ≤ 20 := Nat.le_trans ff.2.1 (by decide)
    have fsz : (toldD dv).shown.length ≤ sizeLine := Nat.le_trans ff.2.2 (by decide)
    refine ⟨D, _, rfl, told_dd h8 (t8 0 a rfl) (t8 1 b rfl) (t8 2 c rfl) (t8 3 e rfl) (hv.same z), ff.1, f20, fsz, ?_⟩
    walk_at "rd"
    refine ⟨Rd.small (by show 2 ≤ 100000; decide), fun a0 n0 => ?_⟩
    have o0 := upd_same (H := H8) (a := a0) (o := HO.tup [V.str "fill", v])
    have w0 := same_new (o := HO.tup [V.str "fill", v]) n0
    generalize upd H8 a0 (HO.tup [V.str "fill", v]) = G0 at o0 w0 ⊢
    replace z := z.trans w0
    walk_at "rd"
    refine ⟨Rd.small (by show 2 ≤ 100000; decide), fun a1 n1 => ?_⟩
    have o1 := upd_same (H := G0) (a := a1) (o := HO.tup [V.str "missing", v])
    have w1 := same_new (o := HO.tup [V.str "missing", v]) n1
    generalize upd G0 a1 (HO.tup [V.str "missing", v]) = G1 at o1 w1 ⊢
    replace z := z.trans w1
    replace o0 := w1 _ _ o0
    walk_at "rd"
    refine ⟨Rd.small (by show 2 ≤ 100000; decide), fun a2 n2 => ?_⟩
    have o2 := upd_same (H := G1) (a := a2) (o := HO.tup [V.str "state", v])
    have w2 := same_new (o := HO.tup [V.str "state", v]) n2
    generalize upd G1 a2 (HO.tup [V.str "state", v]) = G2 at o2 w2 ⊢
    replace z := z.trans w2
    replace o0 := w2 _ _ o0
    replace o1 := w2 _ _ o1
    walk_at "rd"
    refine ⟨Rd.small (by show 2 ≤ 100000; decide), fun a3 n3 => ?_⟩
    have o3 := upd_same (H := G2) (a := a3) (o := HO.tup [V.str "limit", v])
    have w3 := same_new (o := HO.tup [V.str "limit", v]) n3
    generalize upd G2 a3 (HO.tup [V.str "limit", v]) = G3 at o3 w3 ⊢
    replace z := z.trans w3
    replace o0 := w3 _ _ o0
    replace o1 := w3 _ _ o1
    replace o2 := w3 _ _ o2
    walk_at "rd"
    refine ⟨Rd.small (by show 4 ≤ 100000; decide), fun a4 n4 => ?_⟩
    have o4 := upd_same (H := G3) (a := a4) (o := HO.lst [V.ref a0, V.ref a1, V.ref a2, V.ref a3])
    have w4 := same_new (o := HO.lst [V.ref a0, V.ref a1, V.ref a2, V.ref a3]) n4
    generalize upd G3 a4 (HO.lst [V.ref a0, V.ref a1, V.ref a2, V.ref a3]) = G4 at o4 w4 ⊢
    replace z := z.trans w4
    walk_at "rd"
    refine ⟨a4, _, rfl, told_dd o4 (w4 _ _ o0) (w4 _ _ o1) (w4 _ _ o2) (w4 _ _ o3) (hv.same z), ff.1, f20, fsz, ?_⟩
    walk_at "rd"
    have ee : decide (V.str (toldD dv).shown = V.str (toldD dv).shown) = true := decide_eq_true rfl
    show Q (V.bl (decide (V.str (toldD dv).shown = V.str (toldD dv).shown))) G4
    rw [ee]
    exact q _ (hp2.same z) ((u1.trans u2).trans (butS z))
end
end K15

namespace K15
open PySem PySem.Spec PyProof.Rows L2
local macro_rules | `(tactic| walk_at "rd1") => `(tactic| first
  | (with_reducible refine Rd.seq ?_) | (with_reducible refine Rd.asg ?_) | (with_reducible refine Rd.ret ?_) | (with_reducible refine Rd.nxt ?_) | (with_reducible refine Rd.ifS ?_)
  | (with_reducible refine Rd.op ?_) | (with_reducible refine Rd.un ?_) | (with_reducible refine Rd.cb ?_) | (with_reducible refine Rd.cons ?_) | (with_reducible refine Rd.nil ?_) | (with_reducible refine Rd.ifx ?_)
  | (with_reducible refine Rd.test ?_) | (with_reducible refine Rd.testB ?_) | (with_reducible refine Rd.notT ?_) | (with_reducible refine Rd.isB ?_) | (with_reducible refine Rd.lst ?_) | (with_reducible refine Rd.tup ?_)
  | (with_reducible refine Rd.call ?_) | (with_reducible refine lcQ ?_) | (with_reducible refine lcQr ?_) | (with_reducible refine Rd.asgG ?_) | (with_reducible refine Rd.gNm ?_) | (with_reducible refine Rd.gSb ?_) | (with_reducible refine Rd.gC ?_) | (with_reducible refine Rd.gN ?_)
  | ((with_reducible refine' Rd.var ?hv ?_); (case hv => exact rfl)) | (with_reducible refine Rd.c ?_) | (with_reducible refine Rd.i0 ?_) | (with_reducible refine Rd.neg ?_)
  | ((with_reducible refine' Rd.iC ?hc ?_); (case hc => first | (show (0 : Int) < _; decide) | exact ⟨by decide, by decide⟩ | exact ⟨by decide, by decide, by decide⟩ | exact .inl ⟨by decide, by decide⟩ | exact .inr ⟨by decide, by decide⟩ | exact .inl ⟨by omega, by omega⟩ | (show (0 : Int) < _; omega) | exact ⟨by omega, by omega⟩))
  | ((with_reducible refine' Rd.eqS ?hc ?_); (case hc => rfl)) | ((with_reducible refine' Rd.neS ?hc ?_); (case hc => rfl)))
local macro_rules | `(tactic| walk_at "rd") => `(tactic| repeat walk_at "rd1")


abbrev sLaw : Stmt := top 51
def spLaw (K : PySem.W.Frag) : Sp := fun vs H Q _ => ∃ (a : Addr) (ns : List Int), vs = [.ref a] ∧ SqL K H a (ns.map V.int) ∧ ns.length ≤ 63 ∧ ∀ H', Q (.bl true) H'
theorem sc_law : FnScope ["_law_script", "_law_k", "_law_pot_here", "_law_turn"] ["_law_script"] (defScope sLaw) := ⟨rfl, rfl, rfl, by decide +kernel, rfl, by decide +kernel, by decide +kernel⟩
/-- a comprehension over range(n) of what is true each time, drawing on from the pot at p -/
theorem lcTrue {n i : Nat} {ii : List Nat} {te : TE} {σ : L2.St} {H1 : Hp} {Q : VK} {p : Addr} (hi : ii = [i]) (hl : n ≤ 100000) (hp : PotAt H1 p)
    (ht : ∀ k, k < n → ∀ (H2 : Hp) (Q' : VK), PotAt H2 p → (∀ H3, PotAt H3 p → But p H2 H3 → Q' (.bl true) H3) → te ((wipe σ [i]).set i (some (.int (0 + (k : Int))))) H2 Q')
    (q : ∀ (D : Addr) (H2 : Hp), But p H1 H2 → H2 D = some (.lst ((List.replicate n true).map V.bl)) → Q (.ref D) H2) : LcJ (Itr 0 n) i ii te σ H1 Q := by
  subst hi
  intro D hD
  have ne : D ≠ p := fun e => by
    obtain ⟨x, y, a, _⟩ := hp
    rw [← e, hD] at a
    cases a
  have keep : ∀ {G : Hp} {o : HO}, But p H1 G → But p H1 (upd G D o) := fun {G o} h b u hb e => by
    rw [upd_ne (ne_of_none e hD)]
    exact h b u hb e
  have pot : ∀ {G : Hp} {o : HO}, PotAt G p → PotAt (upd G D o) p := fun {G o} ⟨x, y, a, b⟩ => ⟨x, y, by rw [upd_ne ne.symm]; exact a, b⟩
  refine lc_it walk_range (fun k H2 => PotAt H2 p ∧ But p H1 H2 ∧ H2 D = some (.lst ((List.replicate k true).map V.bl))) ⟨pot hp, keep But.refl, upd_same⟩ (fun _ _ _ _ => trivial) (fun k x H H' hk c hy => ?_)
    fun H2 ⟨_, s, c⟩ => q D H2 s c
  obtain ⟨rfl, rfl⟩ := hy
  obtain ⟨p1, s1, c1⟩ := c
  refine ⟨by show List.set (List.set (List.set σ i none) i _) i none = List.set σ i none; rw [List.set_set, List.set_set], iteT (B := PotAt H' p ∧ But p H1 H' ∧ H' D = some (.lst ((List.replicate (k + 1) true).map V.bl))) ?_⟩
  refine ht k hk H' _ p1 fun H3 p3 b3 => ⟨_, b3 D _ ne c1, ?_, pot p3, keep (s1.trans b3), ?_⟩
  · rw [List.length_map, List.length_replicate]
    exact Nat.lt_of_lt_of_le (show k < 100001 by omega) (by decide)
  · rw [upd_same, List.replicate_succ', List.map_append]
    rfl
def ForG (J : It) (g : TG) (tb : TS) (D : Ends) (σ : L2.St) (H1 : Hp) : Prop :=
  ∃ W : Nat → Nat → L2.St → Hp → Prop, (∃ m, W 0 m σ H1) ∧ ∀ i m σ H, W i m σ H → (J.stop i H ∧ D.nx σ H) ∨ (J.go i H ∧ ∃ N : L2.St → Hp → Prop, (∀ σ' H', N σ' H' → ∃ m', m' < m ∧ W (i + 1) m' σ' H') ∧
    ∀ x H', J.yld i H x H' → g x σ H' fun σ2 H2 => tb { nx := N, rt := D.rt, bk := D.nx, ct := N } σ2 H2)
theorem forR {ta : TA} {g : TG} {tb : TS} {D : Ends} {σ : L2.St} {H : Hp} (h : ta σ H fun vs H1 => ∃ j, vs = [.int j] ∧ -2 ^ 62 ≤ j ∧ j < 2 ^ 62 ∧ ForG (Itr 0 j.toNat) g tb D σ H1) : tFor (iRng1 ta) g tb D σ H := h
theorem few (n : Nat) : ∃ J : Nat, J ≤ 6 ∧ (if (if (n : Int) < 6 then (n : Int) else 6) > 1 then (if (n : Int) < 6 then (n : Int) else 6) else 1) = (J : Int) := by
  by_cases h : (n : Int) < 6
  · rw [if_pos h]
    by_cases g : (n : Int) > 1
    · exact ⟨n, by omega, if_pos g⟩
    · exact ⟨1, by omega, if_neg g⟩
  · rw [if_neg h]
    exact ⟨6, by omega, rfl⟩
section
variable {P : Program} {w : World} {K : PySem.W.Frag} {mg : Str → Option Value} {base : Heap} {f fP fR : Addr} {fd fdP fdR : FuncData}
theorem ok_law (F : FnP K "law" sLaw f fd) (FP : FnP K "_law_pot" sPot fP fdP) (FR : FnP K "_law_right" sRight fR fdR) (GP : FnOk P w K mg base CX0 1 fP fdP ["_law_script", "_law_k"] (spPot K)) (GR : FnG P w K mg base CX0 4 fR fdR ["_law_pot_here"] spRight)
    (hP : mg "_law_pot" = some (.ref fP)) (hR : mg "_law_right" = some (.ref fR)) (gRange : mg "range" = none) (gMax : mg "max" = none) (gMin : mg "min" = none) (gLen : mg "len" = none) (gAll : mg "all" = none) : FnG P w K mg base CX0 5 f fd ["_law_script"] (spLaw K) := by
  have bP : Binds K fdP ["_law_script", "_law_k"] [] := FP.bindsN fun _ _ _ _ _ _ us hl => match us, hl with | [_, _], _ => rfl
  have bR : Binds K fdR ["_law_pot_here"] [] := FR.bindsN fun _ _ _ _ _ _ us hl => match us, hl with | [_], _ => rfl
  refine F.okG sc_law (fun vs H Q E h => ?_) (fun cdv A outer s H vs Q E hgu hr h => ?_)
  · obtain ⟨a, ns, rfl, _⟩ := h
    rfl
  · obtain ⟨a, ns, rfl, hS, hl, q⟩ := h
    refine ⟨_, PSs.nox (pss_cons (ps_for PassesOwn.never rfl (pi_range1 rfl gRange (pa_cons (pe_callB (call_max2 rfl) rfl gMax (by decide +kernel) (pa_cons pe_int (pa_cons (pe_callB (call_min2 rfl) rfl gMin (by decide +kernel) (pa_cons pe_int (pa_cons (pe_callB call_len rfl gLen (by decide +kernel) (pa_cons (pv 0) pa_nil)) pa_nil))) pa_nil))) pa_nil)) (pg_name (i := 1) sc_law.nd rfl (Or.inl rfl))
        (pss_cons (ps_set (i := 2) sc_law.nd rfl (Or.inr rfl) (pe_call GP (hr.mono (by decide)) rfl hP FP.kp bP .nil pass0 (pa_cons (pv 0) (pa_cons (pv 1) pa_nil))))
        (pss_one (ps_if (pt_not (pt_val (pe_callB (cr_all rfl) rfl gAll (by decide +kernel) (pa_cons (pe_lc (own := [("_law_turn", 3)]) (g := gName 3) (tt := tYes) (te := tCall spRight [] E0 (tCons (tVar 2) tNil)) rfl sc_law.nd (pi_range1 rfl gRange (pa_cons pe_int pa_nil)) (blkOk_by (N := ["_law_script", "_law_k", "_law_pot_here", "_law_turn"]) (sc := defScope sLaw) (by decide +kernel)) (fun _ _ _ _ _ => by exact pg_name (i := 3) sc_law.nd rfl (Or.inl rfl)) (fun _ _ _ _ _ => by exact pts_nil) (fun _ _ _ _ _ => by exact pe_callG GR hgu hr rfl hR FR.kp bR pass0 (pa_cons (pv 2) pa_nil))) pa_nil)))) (pss_one (ps_ret pe_bl)) pss_nil))))
      (pss_one (ps_ret pe_bl))), ?_⟩
    refine Rd.seq (forR ?_)
    walk_at "rd"
    refine ⟨_, _, rfl, .inl ⟨_, hS, rfl⟩, ?_⟩
    walk_at "rd"
    refine ⟨_, _, rfl, ?_⟩
    walk_at "rd"
    refine ⟨_, _, rfl, ?_⟩
    walk_at "rd"
    obtain ⟨J, hJ, eJ⟩ := few (ns.map V.int).length
    refine ⟨_, rfl, by rw [eJ]; omega, by rw [eJ]; omega, ?_⟩
    rw [eJ]
    refine for_it walk_range (fun i σ H' => (∃ b c d, σ = [some (V.ref a), b, c, d]) ∧ Same H H') ⟨⟨_, _, _, rfl⟩, Same.refl _⟩ (fun _ _ _ _ _ => trivial) (fun i x σ H' G hi h hy => ?_) (fun σ H' h => ?_)
    · obtain ⟨⟨b, c, d, rfl⟩, z⟩ := h
      obtain ⟨rfl, rfl⟩ := hy
      walk_at "rd"
      refine ⟨a, ns, i, by simp, z.seq hS, hl, by omega, fun p H2 hp s2 pt2 => ?_⟩
      walk_at "rd"
      refine ⟨_, rfl, by decide, by decide, lcTrue (p := p) rfl (by show 3 ≤ 100000; decide) pt2 (fun k hk H3 Q' p3 q' => ?_) (fun D H3 b3 h3 => ?_)⟩
      · walk_at "rd"
        exact ⟨p, rfl, p3, q'⟩
      walk_at "rd"
      refine ⟨D, _, rfl, SqL.of h3, ?_⟩
      walk_at "rd"
      refine Rd.ifB (fun e => absurd e (by decide)) (fun _ => ?_)
      walk_at "rd"
      exact ⟨⟨_, _, _, rfl⟩, fun b u e => b3 b u (ne_of_none (z b u e) hp) (s2 b u (z b u e))⟩
    · exact q _
end
end K15

namespace K15
open PySem PySem.Spec PyProof.Rows L2
theorem cl_of {K : PySem.W.Frag} {h : Heap} {mg : Str → Option Value} (X : K.In h) (G : h.Ns mainGlobals mg) (gs : gsB K = true) (q : rows.all (rowB K) = true) (cd : He.SaysD fa fn K) : Cl K mg :=
  ⟨fun r hr => row_of X G gs (List.all_eq_true.mp q r hr), cd.def_ 14 (d := dIni 2 "InvalidNumber") rfl, cd.def_ 15 (d := dIni 3 "InvalidName") rfl, cd.def_ 16 (d := dIni 4 "InvalidFormula") rfl, cd.def_ 17 (d := dIni 5 "InvalidChosen") rfl, cd.def_ 18 (d := dIni 6 "InvalidWhere") rfl, cd.def_ 19 (d := dIni 7 "InvalidPosition") rfl, cd.def_ 20 (d := dIni 8 "InvalidColumns") rfl, cd.def_ 21 (d := dIni 9 "InvalidTop") rfl, cd.def_ 22 (d := dIni 10 "InvalidKinds") rfl, cd.def_ 23 (d := dIni 11 "InvalidPlan") rfl, cd.def_ 24 (d := dIni 12 "InvalidWord") rfl, cd.def_ 25 (d := dIni 13 "InvalidFill") rfl, cd.def_ 26 (d := dIni 14 "InvalidFoot") rfl, cd.def_ 27 (d := dIni 15 "InvalidRow") rfl, cd.def_ 28 (d := dIni 16 "InvalidCount") rfl, cd.def_ 29 (d := dIni 17 "InvalidAbove") rfl, cd.def_ 30 (d := dIni 18 "InvalidTable") rfl, cd.def_ 31 (d := dIni 19 "InvalidStates") rfl, cd.def_ 32 (d := dIni 20 "InvalidText") rfl, cd.def_ 33 (d := dIni 21 "InvalidClaim") rfl, cd.def_ 34 (d := dIni 22 "InvalidCommand") rfl, cd.def_ 35 (d := dIni 24 "UnknownColumn") rfl, cd.def_ 36 (d := dIni 25 "UnknownKind") rfl, cd.def_ 37 (d := dIni 26 "UnknownPlace") rfl, cd.def_ 38 (d := dIni 27 "UnknownName") rfl, cd.def_ 39 (d := dIni 29 "NotAllowed") rfl, cd.def_ 40 (d := dIni 30 "NotFull") rfl, cd.def_ 41 (d := dIni 32 "NotTurning") rfl, cd.def_ 42 (d := dIni 33 "NameTaken") rfl, cd.def_ 43 (d := dIni 36 "TooMany") rfl⟩
theorem kit_of {K : PySem.W.Frag} {h : Heap} {mg : Str → Option Value} (X : K.In h) (G : h.Ns mainGlobals mg) (q : bsB K = true) (t : tabB K = true) : Kit K mg := by
  have at_ := fun r hr => He.ba (List.all_eq_true.mp t r hr)
  refine ⟨fun r hr q hq => of_decide_eq_true (List.all_eq_true.mp (at_ r hr).1 q hq), fun r hr v hv => ?_, fun r hr v hv => ?_, fun v hv => PySem.W.mg_of X G (He.eqO_ok (List.all_eq_true.mp q v hv))⟩
  · exact of_decide_eq_true (He.ba (List.all_eq_true.mp (at_ r hr).2 v hv)).1
  · exact of_decide_eq_true (He.ba (List.all_eq_true.mp (at_ r hr).2 v hv)).2
theorem ex_of {K : PySem.W.Frag} (q : excB K = true) : Ex K := fun p hp r hr => of_decide_eq_true (List.all_eq_true.mp (List.all_eq_true.mp q p hp) r hr)
theorem facts {P : Program} {w : World} {K : PySem.W.Frag} {h : Heap} {mg : Str → Option Value} {f : Addr} (X : K.In h) (G : h.Ns mainGlobals mg) (hfa : mg ("law" : Str) = some (.ref f)) (c : He.SaysX xf fa fn K) :
    ∃ fd : FuncData, (∀ (s : Shared) (v : Value), BindsTo s fd ⟨[v], []⟩ [("_law_script", v)]) ∧ ∀ base : Heap, K.In base → base.Ns mainGlobals mg → FnG P w K mg base CX0 5 f fd ["_law_script"] (spLaw K) := by
  obtain ⟨cx, cd⟩ := c
  obtain ⟨sm, cx⟩ := He.ba cx
  obtain ⟨gs, cx⟩ := He.ba cx
  obtain ⟨ro, cx⟩ := He.ba cx
  obtain ⟨bs, cx⟩ := He.ba cx
  obtain ⟨tb, ec⟩ := He.ba cx
  have T := cl_of X G gs ro cd
  have kt := kit_of X G bs tb
  have ex := ex_of ec
  obtain ⟨d0, F0⟩ := cd.def_ 0 (d := dTop 38 "_law_pot") rfl
  have g0 := He.glo_ok X G (cd.fact 0 (f := .glo "_law_pot") rfl)
  obtain ⟨d1, F1⟩ := cd.def_ 1 (d := dTop 39 "_law_draw") rfl
  have g1 := He.glo_ok X G (cd.fact 1 (f := .glo "_law_draw") rfl)
  obtain ⟨d2, F2⟩ := cd.def_ 2 (d := dTop 40 "_law_pick") rfl
  have g2 := He.glo_ok X G (cd.fact 2 (f := .glo "_law_pick") rfl)
  obtain ⟨d3, F3⟩ := cd.def_ 3 (d := dTop 41 "_law_odd") rfl
  have g3 := He.glo_ok X G (cd.fact 3 (f := .glo "_law_odd") rfl)
  obtain ⟨d4, F4⟩ := cd.def_ 4 (d := dTop 42 "_law_by_position") rfl
  have g4 := He.glo_ok X G (cd.fact 4 (f := .glo "_law_by_position") rfl)
  obtain ⟨d5, F5⟩ := cd.def_ 5 (d := dTop 43 "_law_by_name") rfl
  have g5 := He.glo_ok X G (cd.fact 5 (f := .glo "_law_by_name") rfl)
  obtain ⟨d6, F6⟩ := cd.def_ 6 (d := dTop 44 "_law_classes") rfl
  have g6 := He.glo_ok X G (cd.fact 6 (f := .glo "_law_classes") rfl)
  obtain ⟨d7, F7⟩ := cd.def_ 7 (d := dTop 45 "_law_bases") rfl
  have g7 := He.glo_ok X G (cd.fact 7 (f := .glo "_law_bases") rfl)
  obtain ⟨d8, F8⟩ := cd.def_ 8 (d := dTop 46 "_law_held") rfl
  have g8 := He.glo_ok X G (cd.fact 8 (f := .glo "_law_held") rfl)
  obtain ⟨d9, F9⟩ := cd.def_ 9 (d := dTop 47 "_law_due") rfl
  have g9 := He.glo_ok X G (cd.fact 9 (f := .glo "_law_due") rfl)
  obtain ⟨d10, F10⟩ := cd.def_ 10 (d := dTop 48 "_law_some_right") rfl
  have g10 := He.glo_ok X G (cd.fact 10 (f := .glo "_law_some_right") rfl)
  obtain ⟨d11, F11⟩ := cd.def_ 11 (d := dTop 49 "_law_caught") rfl
  have g11 := He.glo_ok X G (cd.fact 11 (f := .glo "_law_caught") rfl)
  obtain ⟨d12, F12⟩ := cd.def_ 12 (d := dTop 50 "_law_right") rfl
  have g12 := He.glo_ok X G (cd.fact 12 (f := .glo "_law_right") rfl)
  obtain ⟨d13, F13⟩ := cd.def_ 13 (d := dTop 51 "law") rfl
  have b_len : mg "len" = none := He.free_ok X G (cd.fact 14 (f := .free "len") rfl)
  have b_abs : mg "abs" = none := He.free_ok X G (cd.fact 15 (f := .free "abs") rfl)
  have b_max : mg "max" = none := He.free_ok X G (cd.fact 16 (f := .free "max") rfl)
  have b_min : mg "min" = none := He.free_ok X G (cd.fact 17 (f := .free "min") rfl)
  have b_int : mg "int" = none := He.free_ok X G (cd.fact 18 (f := .free "int") rfl)
  have b_divmod : mg "divmod" = none := He.free_ok X G (cd.fact 19 (f := .free "divmod") rfl)
  have b_isinstance : mg "isinstance" = none := He.free_ok X G (cd.fact 20 (f := .free "isinstance") rfl)
  have b_repr : mg "repr" = none := He.free_ok X G (cd.fact 21 (f := .free "repr") rfl)
  have b_enumerate : mg "enumerate" = none := He.free_ok X G (cd.fact 22 (f := .free "enumerate") rfl)
  have b_range : mg "range" = none := He.free_ok X G (cd.fact 23 (f := .free "range") rfl)
  have b_all : mg "all" = none := He.free_ok X G (cd.fact 24 (f := .free "all") rfl)
  have b_ValueError : mg "ValueError" = none := He.free_ok X G (cd.fact 25 (f := .free "ValueError") rfl)
  have b_LookupError : mg "LookupError" = none := He.free_ok X G (cd.fact 26 (f := .free "LookupError") rfl)
  have b_RuntimeError : mg "RuntimeError" = none := He.free_ok X G (cd.fact 27 (f := .free "RuntimeError") rfl)
  have b_ArithmeticError : mg "ArithmeticError" = none := He.free_ok X G (cd.fact 28 (f := .free "ArithmeticError") rfl)
  have e := hfa.symm.trans (He.glo_ok X G (cd.fact 13 (f := .glo "law") rfl))
  cases e
  have b := FunD.bindsA (ps := ["_law_script"]) F13 fun _ _ _ _ _ _ us hl => match us, hl with | [_], _ => rfl
  refine ⟨d13, fun s v => b s [v] rfl, fun base _ _ => ?_⟩
  have G0 := ok_pot (P := P) (w := w) (mg := mg) (base := base) F0 b_len b_abs b_max b_int
  have G2 := ok_pick (P := P) (w := w) (mg := mg) (base := base) F2 F1 g1 b_len b_divmod b_int
  have G3 := ok_odd (P := P) (w := w) (mg := mg) (base := base) F3 G2 F2 g2
  have G4 := ok_pos (P := P) (w := w) (mg := mg) (base := base) F4 T
  have G5 := ok_name (P := P) (w := w) (mg := mg) (base := base) F5 T
  have G6 := ok_cls (P := P) (w := w) (mg := mg) (base := base) F6 T kt b_isinstance
  have G7 := ok_bas (P := P) (w := w) (mg := mg) (base := base) F7 T kt b_isinstance b_ValueError b_LookupError b_RuntimeError b_ArithmeticError
  have G8 := ok_held (P := P) (w := w) (mg := mg) (base := base) F8 T
  have G9 := ok_due (P := P) (w := w) (K := K) (mg := mg) (base := base) F9
  have G10 := ok_sr (P := P) (w := w) (mg := mg) (base := base) F10 T F8 F9 F6 F7 G8 G9 G6 G7 g8 g9 g6 g7 b_repr b_range b_enumerate sm
  have G11 := ok_cau (P := P) (w := w) (mg := mg) (base := base) F11 T kt ex
  have G12 := ok_right (P := P) (w := w) (mg := mg) (base := base) F12 F3 F4 F5 F10 F11 G3 G4 G5 G10 G11 g3 g4 g5 g10 g11 b_repr b_range sm
  exact ok_law (P := P) (w := w) (mg := mg) (base := base) F13 F0 F12 G0 G12 g0 g12 b_range b_max b_min b_len b_all
end K15
open PySem PySem.W PySem.Calls PyProof.Rows
theorem PySem.Challenge.cw_belowneeds_k15_errors_created_holds : PySem.Challenge.rw_belowneeds_k15_errors_created.Holds := by
  w_on; o_law
  refine HandSHeadRun.head_any (r := OpenLaw.row PySem.Challenge.rw_belowneeds_k15_errors_created) (q := view (OpenLaw.row PySem.Challenge.rw_belowneeds_k15_errors_created).prog [51]) (H := K15.hk) (ob := K15.ob) (M := 12000) (loose := K15.loose)
    (d := HandSHeadRun.topDef (OpenLaw.row PySem.Challenge.rw_belowneeds_k15_errors_created).prog 51) (kwd := []) K15.ob_eq
    (by kernel_rfl) (fun s => by kernel_rfl) K15.run (by kernel_rfl) (by kernel_rfl) (by kernel_rfl) (by rfl) (by first | assumption | decide +kernel) (by decide +kernel) ⟨rfl, rfl, rfl, rfl, rfl, by decide +kernel⟩ ?hw ?hc
  case hw => w_witness2
  case hc =>
    refine L2.walk_ofG (l := PySem.Challenge.rw_belowneeds_k15_errors_created) (n := 63) (k := 5) (x := "_law_script") (CX := L2.CX0) rfl (by decide) (by kernel_rfl) ⟨rfl, by decide, by decide⟩ ?F (fun _ _ _ _ z => z)
    intro w mg fa h Y G hmg0
    obtain ⟨K, KX, c⟩ := Y
    have hmg : mg ("law" : PySem.Str) = some (.ref fa) := by
      have e : (HandSHeadRun.topDef (OpenLaw.row PySem.Challenge.rw_belowneeds_k15_errors_created).prog 51).name = ("law" : PySem.Str) := by kernel_rfl
      rw [← e]
      exact hmg0
    obtain ⟨fd, hb, hF⟩ := K15.facts (P := (PySem.Challenge.rw_belowneeds_k15_errors_created).prog) (w := w) KX G hmg c
    exact ⟨K, fd, K15.spLaw K, KX, hb, fun H a ns hl hS => ⟨a, ns, rfl, hS, hl, fun _ => rfl⟩, hF⟩
