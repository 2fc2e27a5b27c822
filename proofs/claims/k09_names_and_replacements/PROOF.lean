import PyProof.Rows.All
import Wide.All
import OpenK.AllK
import Wide.FinOn
import PyProof.ReprRoads
import KE.KExcIs
import KE.KExcInit
import HandS.ForMost
import HandS.Exc
import HandS.TryMany
import HandS.ExcOwn
import HandS.ExcInit
import HandS.IsInst
import HandS.Style
import HandS.ExcValue
import KE.KDictPairs
import HandS.OwnEq
import KE.KCallOwn
import HandS.ClsMeth
import HandS.More
import KE.GoesEnumKw
import HandS.Text
import PyProof.ReprText
import HandS.SetTxt0
import HandS.SetBool
import HandS.Strs
import PyProof.Rows.SortShellAny
import KE.KDictZip
import HandS.Conv
import HandS.SetFor
import PyProof.SumWalkG
import PyProof.FactsAll.subtypes_4
import PyProof.Rows.SeqMore
import PyProof.InstEq
import PyProof.FactsAll.range_iterator_1
import HandS.RevTup
import KE.GoesMore
import KE.GoesEnum
import HandS.Walk
import HandS.SortRule
import HandS.Star
import HandS.Deep
import HandS.RaiseMore
import HandS.StrMore
import HandS.MapJoin
import PyProof.AssignAttr
import HandS.Codes
import HandS.FStr
import HandS.RevRange
import HandS.TupAny
import PySem.Challenge.RW_sealedalike_k09_names_and_replacements
set_option Elab.async false
set_option linter.all false
set_option maxRecDepth 100000
set_option maxHeartbeats 2000000
namespace Mine
open PySem PySem.Spec PyProof.Rows L2

/-- the chain of classes above the package's own errors -/
abbrev chain : List Value := [.type "Exception", .type "BaseException", .type "object"]

/-- what the top says of an error class, whoever reads its instances -/
structure ErrA (K : PySem.W.Frag) (C : Addr) : Prop where
  kp : PySem.W.keepIn K (.ref C) = true
  cl : PySem.W.isClsIn K C = true
  ga : PySem.W.findIn K (.ref C) "__getattribute__" = some (some (.builtin "BaseException.__getattribute__"))
  gg : PySem.W.findIn K (.ref C) "__getattr__" = some none
  su : PySem.W.subIn K (.ref C) (.type "BaseException") = some true
  ca : PySem.W.findIn K (.ref C) "__class__" = some (some (.builtin "object.__class__"))
  cn : PySem.W.specialIn K (.builtin "object.__class__") "__get__" = some (some (.builtin "getset_descriptor.__get__"))
  ct : PySem.W.takesIn K (.builtin "object.__class__") = some true
  cm : PySem.W.mroIn K C (.type "object") = some true
  ty : PySem.W.typeIn K (.ref C) = some (.type "type")
  hd : PySem.W.hasDictIn K C = true

/-- an error object at a, of the class at C: bare, or with its dict -/
def EAt (H : Hp) (a C : Addr) : Option (Addr × List (Str × V)) → Prop
  | none => H a = some (exo a C none)
  | some (dx, fs) => H a = some (exo a C (some dx)) ∧ H dx = some (exd dx fs)

theorem EAt.inst {X : Cx} {pins : List (Addr × Obj)} {σ : L2.St} {H : Hp} {s : Shared} {a C : Addr} {o : Option (Addr × List (Str × V))} (I : Inv X pins σ H s) (h : EAt H a C o) :
    ∃ ox od, PySem.W.InstAt s.heap a ox C od := by
  cases o with
  | none =>
    obtain ⟨t, e⟩ := exo_at I.hok h
    exact ⟨_, none, e, rfl, rfl, trivial⟩
  | some p =>
    obtain ⟨dx, fs⟩ := p
    obtain ⟨t, e⟩ := exo_at I.hok h.1
    obtain ⟨m, ⟨od, es, ep, e2, _⟩, _⟩ := exd_at I.hok h.2
    exact ⟨_, some od, e, rfl, rfl, e2⟩

/-! isinstance of an error that is held -/
def rIs (K : PySem.W.Frag) : List V → Hp → VK → Prop := fun xs H Q => ∃ (a C : Addr) (o : Option (Addr × List (Str × V))) (c : V) (u : Value) (b : Bool),
  xs = [.ref a, c] ∧ EAt H a C o ∧ ErrA K C ∧ ClsV c u ∧ PySem.W.kitOne K (.ref C) u = some b ∧ Q (.bl b) H
def rIsMany (K : PySem.W.Frag) : List V → Hp → VK → Prop := fun xs H Q => ∃ (a C tp : Addr) (o : Option (Addr × List (Str × V))) (cs : List V) (us : List Value) (b : Bool),
  xs = [.ref a, .ref tp] ∧ EAt H a C o ∧ ErrA K C ∧ H tp = some (.tup cs) ∧ Paired ClsV cs us ∧ PySem.W.kitAny K (.ref C) us = some b ∧ Q (.bl b) H
theorem isOne {X : Cx} : CallR X (.builtin "isinstance") (rIs X.K) := by
  intro pins s σ H xs us Q I r h
  obtain ⟨a, C, o, c, u, b, rfl, ha, T, k, e, q⟩ := h
  obtain ⟨u1, u2, rfl, r1, r2⟩ := vals2 r
  have e2 := k.eq r2
  subst e2
  cases (show u1 = Value.ref a from r1)
  obtain ⟨ox, od, J⟩ := ha.inst I
  have Z : PySem.W.KitX X.K (.ref a) (.ref C) (fun h => PySem.W.InstAt h a ox C od) := PySem.W.kitx_exc T.cl T.ga T.gg T.su T.ca T.cn T.ct T.cm
  exact PySem.W.kia_one Z I.kIn J e (fun z => nomatch z) fun tk => ⟨.bl b, H, I.tok tk, rfl, q⟩
theorem isMany {X : Cx} : CallR X (.builtin "isinstance") (rIsMany X.K) := by
  intro pins s σ H xs us Q I r h
  obtain ⟨a, C, tp, o, cs, ws, b, rfl, ha, T, hT, k, e, q⟩ := h
  obtain ⟨u1, u2, rfl, r1, r2⟩ := vals2 r
  cases (show u1 = Value.ref a from r1)
  cases (show u2 = Value.ref tp from r2)
  obtain ⟨ox, od, J⟩ := ha.inst I
  obtain ⟨_, its, rv, o', h1, h2, n, h3⟩ := (show ObjOk X.prog X.w H s.heap tp (.tup cs) from I.hok tp _ hT)
  have e3 := ClsV.all k rv
  subst e3
  obtain ⟨oc, od', dt, sl⟩ := o'
  simp only at h2 h3
  subst h2 h3
  have Z : PySem.W.KitX X.K (.ref a) (.ref C) (fun h => PySem.W.InstAt h a ox C od) := PySem.W.kitx_exc T.cl T.ga T.gg T.su T.ca T.cn T.ct T.cm
  exact PySem.W.kia_tup Z I.kIn J h1 e (fun z => nomatch z) fun tk => ⟨.bl b, H, I.tok tk, rfl, q⟩

/-! a field of an error that is held -/
def tFld (K : PySem.W.Frag) (n : Str) (te : TE) : TE := fun σ H Q => te σ H fun x H1 => ∃ (a C dx : Addr) (fs : List (Str × V)) (v : V), x = .ref a ∧ EAt H1 a C (some (dx, fs)) ∧ ErrA K C ∧ PySem.W.findIn K (.ref C) n = some none ∧ fs.lookup n = some v ∧ Q v H1
theorem pe_efld {X : Cx} {e : Expr} {te : TE} {pos : Pos} {n : Str} (he : PE X e te) (hb : attributeBase e n X.env (eval e X.env) = eval e X.env := by rfl) : PE X (.Attribute e n pos) (tFld X.K n te) := by
  refine ⟨fun pins s σ H Q I h => ?_⟩
  refine attr_of hb (thn (he.run pins s σ H _ I h) fun u s1 hh => ?_)
  obtain ⟨x, H1, I1, rx, a, C, dx, fs, v, ex, ea, T, hno, l, q⟩ := hh
  subst ex
  obtain rfl : u = Value.ref a := rx
  obtain ⟨t, hx⟩ := exo_at I1.hok ea.1
  obtain ⟨mA, hns, hr⟩ := exd_at I1.hok ea.2
  obtain ⟨od, ho, hl⟩ := lookIn_ns hns
  obtain ⟨u, hu, ru⟩ := RelO.some_of (v := v) (o := mA n) (by rw [← l]; exact hr n)
  have J : PySem.W.InstAt s1.heap a _ C (some od) := ⟨hx, rfl, rfl, ho⟩
  exact HandSPX.exc_get I1.kIn J T.ga T.gg T.su (PySem.W.findObj_own T.hd hno rfl (by rw [hl, hu])) (handed_of ru) ⟨v, H1, I1.tok _, ru, q⟩

/-! two new objects beside all that was there: an error and its dict -/
theorem inv_two {X : Cx} {pins : List (Addr × Obj)} {σ : L2.St} {H : Hp} {s : Shared} {h' : Heap} {a dx : Addr} {o u : HO} {tk : Nat} (I : Inv X pins σ H s) (k : ∀ b z, s.heap.get? b = some z → h'.get? b = some z) (ha : s.heap.objs.size ≤ a) (hd : s.heap.objs.size ≤ dx) (ne : dx ≠ a)
    (oa : ObjOk X.prog X.w (upd (upd H dx u) a o) h' a o) (ou : ObjOk X.prog X.w (upd (upd H dx u) a o) h' dx u) : Inv X pins σ (upd (upd H dx u) a o) { s with heap := h', toks := tk } := by
  have na := I.hok.fresh ha
  have nd := I.hok.fresh hd
  have kept : ∀ {b : Addr} {z : HO}, H b = some z → upd (upd H dx u) a o b = some z := fun {b z} e => by
    rw [upd_ne (ne_of_none e na), upd_ne (ne_of_none e nd)]
    exact e
  have un : Un X.fs [] H (upd (upd H dx u) a o) s.heap h' := {
    keep := fun b z e _ _ _ => k b z e
    slot := fun b z e _ _ _ => ⟨z.slots, k b z e⟩
    free := fun b z e n _ => by
      have lt := Heap.lt_size e
      rw [upd_ne (Nat.ne_of_lt (Nat.lt_of_lt_of_le lt ha)), upd_ne (Nat.ne_of_lt (Nat.lt_of_lt_of_le lt hd))]
      exact n
    there := fun b z e _ => ⟨z, k b z e⟩
    tups := fun _ _ e => kept e
    frzs := fun _ _ _ e => kept e
    tbls := fun b ps e => ⟨#[], by rw [kept e, Array.append_empty]⟩ }
  refine I.un (t' := tk) un fun b z e => ?_
  by_cases hb : b = a
  · subst hb
    rw [upd_same] at e
    cases e
    exact oa
  · rw [upd_ne hb] at e
    by_cases hbd : b = dx
    · subst hbd
      rw [upd_same] at e
      cases e
      exact ou
    · rw [upd_ne hbd] at e
      exact (I.hok b z e).stay (fun c v _ y => k c v y) (fun _ y => kept y) fun _ _ y => kept y
end Mine

set_option Elab.async false
set_option linter.all false
set_option maxRecDepth 100000
set_option maxHeartbeats 4000000
/-! An error class over Exception, called with values and names: the object is made, then its own __init__ runs. -/
namespace Mine
open PySem PySem.Spec L2
section
variable {prog : Program} {w : World} {M : Model} {A : Around} {E : Value → Shared → Prop} {R : Result → Shared → Prop} {h : Heap} {g : Array GenState} {d : Drawn} {t : Nat} {os : OsState}
variable {nm q : Str} {C N : Addr} {bs bm bmB : List Value} {hdct : Bool} {sn : List Str} {sub : List Value} {ab : Bool} {col : Option Bool} {dd : Option Addr} {k0 k1 k2 k3 k5 : Option Value} {B newId initId : String}
/-- the object alone -/
abbrev bareE (C t : Addr) : Obj := HandSPX.excO C t
theorem newOk_kw (F : ExcBaseFacts B newId initId bmB) (hT : ∀ X : String, bm.contains (.type X) = bmB.contains (.type X)) {rest : List Value} {kw : List (Str × Value)} {Q : Unit → Shared → Prop}
    (hC : h.get? C = some (excClassObj nm q C N bs bm hdct sn sub ab col dd k0 k1 k2 k3 k5 newId)) (z : Q () ⟨h, g, d, t, os⟩) : wpAny M A (checkBuiltinCall newId ⟨.ref C :: rest, kw⟩) Q E ⟨h, g, d, t, os⟩ := by
  have has : (Value.ref C :: bm).contains (.type B) = true := by rw [List.contains_cons, hT, F.hasB, Bool.or_true]
  have st := F.noStar
  simp only [checkBuiltinCall, F.newKind, F.newSplit, F.newRow]
  repeat (first | refine wpAny_loadPart_at hC ?_ | (refine wpAny_isSubtype_exc hC ?_; rw [has]) | refine wpAny_staticBase_exc hC ?_ | refine wpAny_madeBy_exc hC ?_ | simp only [bne_self_eq_false, Bool.false_eq_true, if_false] | wp_step)
  exact z
theorem newRun_kw (F : ExcBaseFacts B newId initId bmB) (hT : ∀ X : String, bm.contains (.type X) = bmB.contains (.type X)) {rest : List Value} {kw : List (Str × Value)}
    (hC : h.get? C = some (excClassObj nm q C N bs bm hdct sn sub ab col dd k0 k1 k2 k3 k5 newId)) (fits : rest.length ≤ sizeLine)
    (z : R (.ok (.ret (.ref (h.objs.size + 1)))) ⟨(h.push (W.kdv_tup rest)).push (bareE C h.objs.size), g, d, t, os⟩) :
    codeAny (model prog w) A (.builtin newId ⟨.ref C :: rest, kw⟩) R ⟨h, g, d, t, os⟩ := by
  have en := F.ends
  have hB : (Value.ref C :: bm).contains (.type B) = true := by rw [List.contains_cons, hT, F.hasB, Bool.or_true]
  have hA : (Value.ref C :: bm).contains (.type "AttributeError") = false := by rw [List.contains_cons, hT, F.noAttr]; rfl
  have hN : (Value.ref C :: bm).contains (.type "NameError") = false := by rw [List.contains_cons, hT, F.noName]; rfl
  refine codeAny_builtinAt F.entry ?_
  unfold Builtin.«BaseException.__new__»
  refine wpAt_bind ?_
  show wpAt _ _ _ (stack >>= _) _ _ _
  refine wpAt_bind (wpAt_stack fun p below => wpAt_of_wpAny ?_)
  wp_walk
  refine wpAt_of_wpAny ?_
  rw [F.owner]
  repeat (first | with_reducible refine wpAny_madeHere_exc F.canon hC ?_ | with_reducible refine wpAny_loadPart_at hC ?_ | (with_reducible refine wpAny_isSubtype_exc hC ?_; first | rw [hB] | rw [hA] | rw [hN]) | wp_step)
  show R _ _
  rw [Heap.size_push]
  exact z
theorem typeCall_kw (F : ExcBaseFacts B newId initId bmB) (hT : ∀ X : String, bm.contains (.type X) = bmB.contains (.type X)) {rest : List Value} {kw : List (Str × Value)} {fI : Addr} {Q : Fin → Shared → Prop}
    (hC : h.get? C = some (excClassObj nm q C N bs bm hdct sn sub ab col dd k0 k1 k2 k3 k5 newId)) (fits : rest.length ≤ sizeLine)
    (hi : W.Looks (model prog w) h (typeLookup (.ref C) "__init__") (some (.ref fI))) (hb : ∀ self, W.Looks (model prog w) h (bindSpecial (.ref fI) self) (.ref fI, [self]))
    (z : codeAny (model prog w) A (.call (.ref fI) ⟨.ref (h.objs.size + 1) :: rest, kw⟩)
      (fun r s' => match r with | .ok (.ret v) => v = .none ∧ Q (.done (.ret (.ref (h.objs.size + 1)))) s' | .ok _ => False | .error e => E e s') ⟨(h.push (W.kdv_tup rest)).push (bareE C h.objs.size), g, d, t, os⟩) :
    wpAny (model prog w) A (Builtin.«type.__call__» ⟨.ref C :: rest, kw⟩) Q E ⟨h, g, d, t, os⟩ := by
  repeat (first | with_reducible refine wpAny_loadPart_at hC ?_ | with_reducible refine wpAny_madeBy_exc hC ?_ | wp_step)
  refine codeAny_call_builtin_code (Code.quiet_builtin _ F.quiet) (newOk_kw F hT hC ?_)
  refine newRun_kw F hT hC fits ?_
  show wpAny _ _ _ _ _ _
  have k : ∀ b o, h.get? b = some o → ((h.push (W.kdv_tup rest)).push (bareE C h.objs.size)).get? b = some o := fun b o e => Heap.get?_push_of_some _ (Heap.get?_push_of_some _ e)
  have hC1 := k _ _ hC
  have he : ((h.push (W.kdv_tup rest)).push (bareE C h.objs.size)).get? (h.objs.size + 1) = some (bareE C h.objs.size) := by heap_get
  have own : (Value.ref C :: bm).contains (.ref C) = true := by simp
  have i1 := hi.keeps k
  have b1 := (hb (.ref (h.objs.size + 1))).keeps k
  unfold isInstance
  repeat (first | with_reducible refine wpAny_loadPart_at he ?_ | (with_reducible refine wpAny_isSubtype_exc hC1 ?_; rw [own]) | wp_step)
  show wpAny _ _ (typeLookup (.ref C) _) _ _ _
  refine i1.at ?_
  refine wpAny_holding (wpAny_bind (b1.at ?_))
  refine wpAny_bind (wpAny_call (codeAny_mono z fun r s' y => ?_))
  rcases r with e | (v | _ | _ | _) <;> first | exact y | exact y.elim | skip
  obtain ⟨rfl, y⟩ := y
  first
    | exact wpAny_pure (wpAny_pure y)
    | (wp_walk; exact y)
theorem call_kw (F : ExcBaseFacts B newId initId bmB) (hT : ∀ X : String, bm.contains (.type X) = bmB.contains (.type X)) {rest : List Value} {kw : List (Str × Value)} {fI : Addr}
    (hC : h.get? C = some (excClassObj nm q C N bs bm hdct sn sub ab col dd k0 k1 k2 k3 k5 newId)) (fits : rest.length ≤ sizeLine)
    (hi : W.Looks (model prog w) h (typeLookup (.ref C) "__init__") (some (.ref fI))) (hb : ∀ self, W.Looks (model prog w) h (bindSpecial (.ref fI) self) (.ref fI, [self]))
    (z : codeAny (model prog w) (A.under (.builtin "type.__call__" ⟨.ref C :: rest, kw⟩)) (.call (.ref fI) ⟨.ref (h.objs.size + 1) :: rest, kw⟩) (W.InitBack (h.objs.size + 1) R) ⟨(h.push (W.kdv_tup rest)).push (bareE C h.objs.size), g, d, t, os⟩) :
    codeAny (model prog w) A (.call (.ref C) ⟨rest, kw⟩) R ⟨h, g, d, t, os⟩ := by
  have f1 := tc_lookup
  have f2 := tc_bind (.ref C)
  have hTy : (⟨h, g, d, t, os⟩ : Shared).TypeIs (.ref C) "type" := ⟨_, hC, rfl⟩
  refine codeAny_of_tree ?_
  show wpAny _ _ (callAny (.ref C) _) _ _ _
  repeat (any_goals (first | assumption | with_reducible refine wpAny_loadPart_at hC ?_ | wp_step))
  refine ⟨rfl, ?_⟩
  refine codeAny_call_builtin_at (Code.quiet_builtin _ (by decide +kernel)) entry_typeCall (wpAny_check_type_call_sub hC (typeCall_kw F hT hC fits hi hb ?_))
  refine codeAny_mono z fun r s' y => ?_
  rcases r with e | (v | _ | _ | _) <;> exact y
end
end Mine

set_option Elab.async false
set_option linter.all false
set_option maxRecDepth 100000
set_option maxHeartbeats 4000000
/-! A def __init__(self, f) that stores f, run on a bare error; errors made by value and by name, and raised. -/
namespace Mine
open PySem PySem.Spec L2
/-- the text of such a def -/
structure Ini (q : Str) (st : Stmt) (f : Str) : Prop where
  body : ∃ q1 q2 q3 q4, defBody st = [.Assign [.Attribute (.Name "self" q1) f q2] (.Name f q3) q4]
  names : (defScope st).names = [(PySem.Str.ofString "self", .local), (f, .local)]
  kind : (defScope st).kind = .function
  co : (defScope st).isCoroutine = false
  gen : (defScope st).isGenerator = false
  b1 : ∀ (kV doc pm : Value) (an : Option Addr) (cdv ct x v : Value), bindArgs (PySem.W.fnOf "__init__" q (defArgs st) (defBody st) (defScope st) .none kV doc pm an cdv ct) ⟨[x, v], []⟩ = pure [(PySem.Str.ofString "self", x), (f, v)]
  b2 : ∀ (kV doc pm : Value) (an : Option Addr) (cdv ct x v : Value), bindArgs (PySem.W.fnOf "__init__" q (defArgs st) (defBody st) (defScope st) .none kV doc pm an cdv ct) ⟨[x], [(f, v)]⟩ = pure [(PySem.Str.ofString "self", x), (f, v)]
  ne : (f == (PySem.Str.ofString "self")) = false
  db : (f == (PySem.Str.ofString "__debug__")) = false
/-- an error class with such an __init__, its field f -/
structure ErrF (K : PySem.W.Frag) (mg : Str → Option Value) (x f : Str) (C fI : Addr) : Prop extends ErrA K C where
  g : mg x = some (.ref C)
  new : PySem.W.excInitIn K C chain "Exception.__new__" = true
  over : PySem.W.excOver K C chain = true
  sa : PySem.W.findIn K (.ref C) "__setattr__" = some (some (.builtin "object.__setattr__"))
  tk : PySem.W.takerIn K C f = some none
  no : PySem.W.findIn K (.ref C) f = some none
  ini : PySem.W.findIn K (.ref C) "__init__" = some (some (.ref fI))
  tI : PySem.W.typeIn K (.ref fI) = some (.type "function")
  txt : ∃ (q : Str) (st : Stmt) (fd : FuncData), Fun K "__init__" q st fI fd ∧ Ini q st f
/-- an error class without -/
structure ErrN (K : PySem.W.Frag) (mg : Str → Option Value) (x : Str) (C : Addr) : Prop extends ErrA K C where
  g : mg x = some (.ref C)
  new : PySem.W.excIn K C chain "Exception.__new__" = true

section
variable {prog : Program} {w : World} {A : Around} {E : Value → Shared → Prop} {R : Result → Shared → Prop} {K : PySem.W.Frag} {mg : Str → Option Value} {x f : Str} {C fI : Addr}
/-- an error object, dict and all -/
abbrev fullE (C t dx : Addr) : Obj := { cls := .ref C, dict := some dx, data := .fields #[.ref t, .none, .none, .none, .bool false, .none] }
/-- what the call of __init__ leaves -/
structure Stored (h h' : Heap) (e C t dx : Addr) (f : Str) (v : Value) : Prop where
  keep : ∀ b o, b ≠ e → h.get? b = some o → h'.get? b = some o
  obj : h'.get? e = some (fullE C t dx)
  big : h.objs.size ≤ dx
  ne : dx ≠ e
  ns : h'.Ns1 dx (fun y => if y = f then some v else none)
theorem store_bare (T : ErrF K mg x f C fI) {e t : Addr} {v : Value} {tk : Tok} {s : Shared} (X : K.In s.heap) (he : s.heap.get? e = some (bareE C t))
    (z : ∀ h' tk' dx, Stored s.heap h' e C t dx f v → R (.ok (.ret .none)) { s with heap := h', toks := tk' }) :
    codeAny (model prog w) A (.call (.builtin "object.__setattr__") ⟨[.ref e, .str f tk, v], []⟩) R s := by
  obtain ⟨hp, g, d, tt, os⟩ := s
  have he' : hp.get? e = some (bareE C t) := he
  have X' : K.In hp := X
  have J : PySem.W.InstAt hp e (bareE C t) C none := ⟨he', rfl, rfl, trivial⟩
  have ne : e ≠ hp.objs.size := Nat.ne_of_lt (Heap.lt_size he')
  obtain ⟨cd, hc, hm⟩ := PySem.W.any_some T.hd
  have hcls : PySem.W.Looks (model prog w) hp (classData C) cd := PySem.W.looks_clsIn X' hc
  refine PySem.W.osa_openX (s := ⟨hp, g, d, tt, os⟩) (od := none) PySem.F.store_Exception X J T.over T.tk fun b => ?_
  show wpAny _ _ (Builtin.ObjectAttr.storeInOwnDict (.ref e) (.ref C) (.str f tk) f v b) _ _ _
  obtain ⟨nm, bs, mro, ns, qn, hdd, sn, sb, ab, col, del⟩ := cd
  dsimp only at hm
  subst hm
  have first : hp.get? e = some (bareE C t) → ((hp.push { cls := .type "dict", data := .dict #[] }).update e fun o => { o with dict := some hp.objs.size }).Ns hp.objs.size fun _ => none := fun _ =>
    ⟨_, #[], _, (Heap.get?_update_ne _ _ _ _ ne.symm).trans (Heap.get?_push_at rfl rfl), rfl, fun y hy => absurd hy (by simp), fun _ => rfl⟩
  have last : ∀ (h' : Heap) (tk' : Nat), h'.Ns1 hp.objs.size (fun y => if y = f then some v else none) → Heap.SameBut hp.objs.size ((hp.push { cls := .type "dict", data := .dict #[] }).update e fun o => { o with dict := some hp.objs.size }) h' →
      R (.ok (.ret .none)) ⟨h', g, d, tk', os⟩ := fun h' tk' hn hs => by
    have e1 : (hp.push { cls := .type "dict", data := .dict #[] }).get? e = some (bareE C t) := Heap.get?_push_of_some _ he'
    refine z h' tk' hp.objs.size ⟨fun b o hb ho => ?_, ?_, Nat.le_refl _, ne.symm, hn⟩
    · exact (hs.2 b (Nat.ne_of_lt (Heap.lt_size ho))).trans ((Heap.get?_update_ne _ _ _ _ hb).trans (Heap.get?_push_of_some _ ho))
    · exact (hs.2 e ne).trans (Heap.get?_update_self _ e1 rfl)
  unfold Builtin.ObjectAttr.storeInOwnDict Builtin.ObjectAttr.ownDictForStores
  cases b
  all_goals
    repeat (first | with_reducible refine HandSPX.store_in_new ?_ ?_ | with_reducible refine wpAny_loadPart_at he' ?_ | with_reducible refine hcls.at ?_ | wp_step)
  all_goals first | exact first he' | exact last
theorem find_loc {P : Shared → Prop} {s : Shared} {nm q : Str} {sc : Scope} {L a : Addr} {cd : Value} {m : Str → Option Value} {y : Str} {pos : Pos} {v : Value} {Q : Value → Shared → Prop} (hn : s.heap.Ns L m) (hv : m y = some v) (z : Q v s)
    (hk : sc.kind = .function) (hl : sc.names.lookup y = some .local) (hd : (y == (PySem.Str.ofString "__debug__")) = false) :
    wpAny (model prog w) A (eval (.Name y pos) (PyProof.Rows.envOfC q sc L a cd)) Q E s := wpAny_Name (wpAny_loadName_local hk hl hn hv z) hd
/-- the call of __init__ on a bare error -/
theorem init_run (T : ErrF K mg x f C fI) {e t : Addr} {v : Value} {args : Args} {s : Shared} (X : K.In s.heap) (lim : s.heap.NoLimit) (he : s.heap.get? e = some (bareE C t)) (room : A.depth < recursionLimit)
    (hargs : args = ⟨[.ref e, v], []⟩ ∨ args = ⟨[.ref e], [(f, v)]⟩)
    (z : ∀ h' tk' dx, Stored s.heap h' e C t dx f v → R (.ok (.ret .none)) { s with heap := h', toks := tk' }) :
    codeAny (model prog w) A (.call (.ref fI) args) R s := by
  obtain ⟨q, st, fd, F, T1⟩ := T.txt
  obtain ⟨oc, od, kV, doc, pm, an, cdv, ct, osl, rfl, lk, hcd⟩ := F.ex
  obtain ⟨q1, q2, q3, q4, hb⟩ := T1.body
  have lS : (defScope st).names.lookup (PySem.Str.ofString "self") = some .local := by rw [T1.names]; rfl
  have lF : (defScope st).names.lookup f = some .local := by
    rw [T1.names]
    simp only [List.lookup, T1.ne]
    simp
  have bind : BindsTo s (PySem.W.fnOf "__init__" q (defArgs st) (defBody st) (defScope st) .none kV doc pm an cdv ct) args [(PySem.Str.ofString "self", .ref e), (f, v)] := by
    rcases hargs with rfl | rfl
    · exact BindsTo.of_eq (T1.b1 ..)
    · exact BindsTo.of_eq (T1.b2 ..)
  refine Att.call_fn X lim lk hcd room bind ?_ (fun s1 IC => ?_) T1.co T1.gen T1.kind
  · simp only [List.all_cons, List.all_nil, lS, lF]
    rfl
  · obtain ⟨h1, tk1, rfl⟩ := IC.toInCall.same
    have k : ∀ b o, s.heap.get? b = some o → h1.get? b = some o := IC.toInCall.keep
    have hn := IC.toInCall.ns
    have lt := Heap.lt_size he
    have mS : bindL (PyProof.Rows.envOfC q (defScope st) s.heap.objs.size fI cdv).kindOf (([PySem.Str.ofString "self", f] : List Str).zip [Value.ref e, v]) (fun _ => none) (PySem.Str.ofString "self") = some (.ref e) := by
      refine bindL_get (P := [PySem.Str.ofString "self", f]) (vs := [.ref e, v]) (i := 0) ?_ rfl rfl lS
      exact List.nodup_cons.mpr ⟨fun q => by
        have e2 : PySem.Str.ofString "self" = f := by simpa using q
        have := T1.ne
        rw [← e2] at this
        simp at this, List.nodup_cons.mpr ⟨by simp, List.nodup_nil⟩⟩
    have mF : bindL (PyProof.Rows.envOfC q (defScope st) s.heap.objs.size fI cdv).kindOf (([PySem.Str.ofString "self", f] : List Str).zip [Value.ref e, v]) (fun _ => none) f = some v := by
      refine bindL_get (P := [PySem.Str.ofString "self", f]) (vs := [.ref e, v]) (i := 1) ?_ rfl rfl lF
      exact List.nodup_cons.mpr ⟨fun q => by
        have e2 : PySem.Str.ofString "self" = f := by simpa using q
        have := T1.ne
        rw [← e2] at this
        simp at this, List.nodup_cons.mpr ⟨by simp, List.nodup_nil⟩⟩
    rw [hb]
    show wpAny _ _ (execs _ _) _ _ _
    refine wpAny_execs_cons (plainObj_wpAny_Assign_Attribute ?_)
    refine find_loc (P := fun _ => True) (nm := "__init__") hn mF (find_loc (P := fun _ => True) (nm := "__init__") hn mS ?_ T1.kind lS (by decide)) T1.kind lF T1.db
    refine PySem.W.set_plain (X.keeps k) (ox := bareE C t) (od := none) ⟨k _ _ he, rfl, rfl, trivial⟩ T.sa ?_
    refine store_bare T (s := { s with heap := h1, toks := tk1 + 1 }) (X.keeps k) (k _ _ he) fun h3 tk3 dx S => ?_
    show wpAny _ _ (execs _ _) _ _ _
    have z1 : s.heap.objs.size < h1.objs.size := hn.lt
    exact wpAny_execs_nil (z h3 tk3 dx ⟨fun b o hb2 e2 => S.keep b o hb2 (k b o e2), S.obj, Nat.le_of_lt (Nat.lt_of_lt_of_le z1 S.big), S.ne, S.ns⟩)
end
end Mine

set_option Elab.async false
set_option linter.all false
set_option maxRecDepth 100000
set_option maxHeartbeats 4000000
/-! Errors made as values (by position, by name, without anything), and raised. -/
namespace Mine
open PySem PySem.Spec L2
/-- a new error e with its dict dx: all that stood stands -/
structure MadeE (h h' : Heap) (e C t dx : Addr) (f : Str) (v : Value) : Prop where
  keep : ∀ b o, h.get? b = some o → h'.get? b = some o
  new : h.objs.size ≤ e
  obj : h'.get? e = some (fullE C t dx)
  big : h.objs.size ≤ dx
  ne : dx ≠ e
  ns : h'.Ns1 dx (fun y => if y = f then some v else none)
section
variable {prog : Program} {w : World} {A : Around} {E : Value → Shared → Prop} {R : Result → Shared → Prop} {K : PySem.W.Frag} {mg : Str → Option Value} {x f : Str} {C fI : Addr}
theorem call_err (T : ErrF K mg x f C fI) {v : Value} {us : List Value} {kw : List (Str × Value)} {s : Shared} (X : K.In s.heap) (lim : s.heap.NoLimit) (room : A.depth + 1 < recursionLimit) (ha : (us = [v] ∧ kw = []) ∨ (us = [] ∧ kw = [(f, v)]))
    (z : ∀ h' tk e t dx, MadeE s.heap h' e C t dx f v → R (.ok (.ret (.ref e))) { s with heap := h', toks := tk }) :
    codeAny (model prog w) A (.call (.ref C) ⟨us, kw⟩) R s := by
  obtain ⟨nm, N, qn, bs, bm, hdct, sn, sub, ab, col, dd, k0, k1, k2, k3, k5, hC, hT⟩ := PySem.W.excInit_of X T.new
  obtain ⟨hp, g, d, tk, os⟩ := s
  have hs : us.length ≤ sizeLine := by
    rw [sizeLine_eq]
    rcases ha with ⟨rfl, _⟩ | ⟨rfl, _⟩ <;> simp
  have k : ∀ b o, hp.get? b = some o → ((hp.push (PySem.W.kdv_tup us)).push (bareE C hp.objs.size)).get? b = some o := fun b o e => Heap.get?_push_of_some _ (Heap.get?_push_of_some _ e)
  have he : ((hp.push (PySem.W.kdv_tup us)).push (bareE C hp.objs.size)).get? (hp.objs.size + 1) = some (bareE C hp.objs.size) := by heap_get
  have Xh : K.In hp := X
  refine call_kw PySem.F.excBase_Exception hT hC hs (PySem.W.looks_findIn Xh T.ini) (fun self => PySem.W.bind_fn Xh self T.tI) ?_
  refine init_run T (v := v) (s := ⟨_, g, d, tk, os⟩) (Xh.keeps k) (PySem.Heap.NoLimit.keeps lim k) he ?_ ?_ fun h' tk' dx S => ?_
  · show A.depth + 1 < recursionLimit
    exact room
  · rcases ha with ⟨rfl, rfl⟩ | ⟨rfl, rfl⟩
    · exact .inl rfl
    · exact .inr rfl
  · have big : hp.objs.size + 1 + 1 ≤ dx := by
      have q := S.big
      simp only [Heap.size_push] at q
      exact q
    exact ⟨rfl, z h' tk' (hp.objs.size + 1) hp.objs.size dx ⟨fun b o e => S.keep b o (Nat.ne_of_lt (Nat.lt_succ_of_lt (Heap.lt_size e))) (k b o e), Nat.le_succ _, S.obj, Nat.le_trans (Nat.le_trans (Nat.le_succ _) (Nat.le_succ _)) big, S.ne, S.ns⟩⟩
end
section
variable {X : Cx} {x f : Str} {C fI : Addr} {e : Expr} {te : TE} {p pos kpos : Pos}
/-- the heap with the new error -/
def eUp (H : Hp) (a dx C : Addr) (f : Str) (v : V) : Hp := upd (upd H dx (exd dx [(f, v)])) a (exo a C (some dx))
theorem eUp_at {H : Hp} {a dx C : Addr} {f : Str} {v : V} (ne : dx ≠ a) : EAt (eUp H a dx C f v) a C (some (dx, [(f, v)])) := ⟨upd_same, by unfold eUp; rw [upd_ne ne, upd_same]⟩
theorem eUp_ne {H : Hp} {a dx C b : Addr} {f : Str} {v : V} (h1 : b ≠ a) (h2 : b ≠ dx) : eUp H a dx C f v b = H b := by unfold eUp; rw [upd_ne h1, upd_ne h2]
def tErr (C : Addr) (f : Str) (ta : TA) : TE := fun σ H Q => ta σ H fun vs H1 => ∃ v, vs = [v] ∧ ∀ a dx, H1 a = none → H1 dx = none → dx ≠ a → Q (.ref a) (eUp H1 a dx C f v)
theorem err_back {pins : List (Addr × Obj)} {σ : L2.St} {H1 : Hp} {s1 : Shared} {v : V} {u : Value} {Q : VK} (T : ErrF X.K X.mg x f C fI) (I1 : L2.Inv X pins σ H1 s1) (rv : L2.RelV v u) (q : ∀ a dx, H1 a = none → H1 dx = none → dx ≠ a → Q (.ref a) (eUp H1 a dx C f v))
    (room : X.A.depth + 1 < recursionLimit) {us : List Value} {kw : List (Str × Value)} (ha : (us = [u] ∧ kw = []) ∨ (us = [] ∧ kw = [(f, u)])) : wpAny (model X.prog X.w) X.A (call (.ref C) us kw) (L2.EP X pins σ Q) X.xe s1 := by
  refine wpAny_call (call_err T I1.kIn I1.nolimit room ha fun h' tk a t dx M => ?_)
  refine ⟨.ref a, eUp H1 a dx C f v, inv_two (o := exo a C (some dx)) (u := exd dx [(f, v)]) I1 M.keep M.new M.big M.ne (exo_ok M.obj) (exd_ok M.ns ?_), rfl, q a dx (I1.hok.fresh M.new) (I1.hok.fresh M.big) M.ne⟩
  exact relO_put (fs := []) rv fun g => True.intro
theorem pe_err {ta : TA} (T : ErrF X.K X.mg x f C fI) (room : X.A.depth + 1 < recursionLimit) (ha : PA X [e] ta) (hg : Gl X x) (hdb : (x == (PySem.Str.ofString "__debug__")) = false := by decide)
    (hs : starEach [e] X.env = (false, eval e X.env) :: starEach [] X.env := by rfl) (hpl : (backTo pos (starEach [] X.env)).any (·.1) = false := by rfl) : PE X (.Call (.Name x p) [e] [] pos) (tErr C f ta) := by
  refine ⟨fun pins s σ H Q I h => ?_⟩
  refine wpAny_Call_Name_kw (ld_glob I hg T.g ?_ hdb)
  refine PySem.W.callWith_K (h₀ := X.base) I.ok.mod.kin T.kp (thn (ha.run pos pins s σ H _ I h) fun us s1 hh => ?_) hs hpl
  obtain ⟨vs, H1, I1, r1, v, ev, q⟩ := hh
  subst ev
  refine ⟨I1.kIn, ?_⟩
  cases r1 with
  | cons rv rn =>
    cases rn
    exact err_back T I1 rv q room (.inl ⟨rfl, rfl⟩)
theorem pe_errK {ta : TA} (T : ErrF X.K X.mg x f C fI) (room : X.A.depth + 1 < recursionLimit) (ha : PK X [⟨some f, e, kpos⟩] ta) (hg : Gl X x) (hdb : (x == (PySem.Str.ofString "__debug__")) = false := by decide)
    (hall : (backToKw pos (keywordEach [⟨some f, e, kpos⟩] X.env)).all (·.1.isSome) = true := by rfl) (hks : (backToKw pos (keywordEach [⟨some f, e, kpos⟩] X.env)).filterMap (·.1) = [f] := by rfl)
    (hpl : ((backTo pos (starEach [] X.env)).any (·.1) || (backToKw pos (keywordEach [⟨some f, e, kpos⟩] X.env)).any (·.1.isNone)) = false := by rfl) : PE X (.Call (.Name x p) [] [⟨some f, e, kpos⟩] pos) (tErr C f ta) := by
  refine ⟨fun pins s σ H Q I h => ?_⟩
  refine wpAny_Call_Name_kw (ld_glob I hg T.g ?_ hdb)
  refine PySem.W.callWith_KW0 (h₀ := X.base) I.ok.mod.kin T.kp hall (thn (ha.run pos pins s σ H _ I h) fun us s1 hh => ?_) hpl
  obtain ⟨vs, H1, I1, r1, v, ev, q⟩ := hh
  subst ev
  refine ⟨I1.kIn, ?_⟩
  cases r1 with
  | cons rv rn =>
    cases rn
    rw [hks]
    exact err_back T I1 rv q room (.inr ⟨rfl, rfl⟩)
/-- C(), a class without an __init__ of its own -/
def tErr0 (C : Addr) : TE := fun σ H Q => ∀ a, H a = none → Q (.ref a) (upd H a (exo a C none))
theorem pe_err0 (T : ErrN X.K X.mg x C) (hg : Gl X x) (hdb : (x == (PySem.Str.ofString "__debug__")) = false := by decide) : PE X (.Call (.Name x p) [] [] pos) (tErr0 C) := by
  refine ⟨fun pins s σ H Q I h => ?_⟩
  refine wpAny_Call_Name_kw (ld_glob I hg T.g ?_ hdb)
  refine PySem.W.callWith_K0 I.kIn T.kp ?_
  show wpAny _ _ (call (.ref C) []) _ _ _
  obtain ⟨bm, N, nm, qn, bs, hdct, sn, sub, ab, col, dd, k0, k1, k2, k3, k5, mN, hC, hN, hni, O⟩ := exc_obj I.kIn T.new
  refine wpAny_call_exc_subT PySem.F.excBase_Exception O hC hN hni (fun h' a M => ?_) (by show 0 ≤ sizeLine; exact Nat.zero_le _)
  have hn : H a = none := I.hok.gone M.new
  obtain ⟨t, ht, _, _⟩ := M.there
  exact ⟨.ref a, upd H a (exo a C none), I.laidN M.keeps M.new hn (exo_ok ht), rfl, h a hn⟩
/-! raised: nothing of the error is told but its class -/
def tRais (C : Addr) (ta : TA) : L2.St → Hp → L2.XK → Prop := fun σ H Q => ta σ H fun vs H1 => ∃ v, vs = [v] ∧ ∀ d, Q (.ref C) (some d) H1
theorem pm_err {ta : TA} (T : ErrF X.K X.mg x f C fI) (room : X.A.depth + 1 < recursionLimit) (ha : PA X [e] ta) (hg : Gl X x) (hdb : (x == (PySem.Str.ofString "__debug__")) = false := by decide)
    (hs : starEach [e] X.env = (false, eval e X.env) :: starEach [] X.env := by rfl) (hpl : (backTo pos (starEach [] X.env)).any (·.1) = false := by rfl) : L2.PMk X (.Call (.Name x p) [e] [] pos) (tRais C ta) := by
  intro pins s σ H Q I h
  refine wpAny_Call_Name_kw (ld_glob I hg T.g ?_ hdb)
  refine PySem.W.callWith_K (h₀ := X.base) I.ok.mod.kin T.kp (thn (ha.run pos pins s σ H _ I h) fun us s1 hh => ?_) hs hpl
  obtain ⟨vs, H1, I1, r1, v, ev, q⟩ := hh
  subst ev
  refine ⟨I1.kIn, ?_⟩
  cases r1 with
  | cons rv rn =>
    cases rn
    refine wpAny_call (call_err T I1.kIn I1.nolimit room (.inl ⟨rfl, rfl⟩) fun h' tk a t dx M => ?_)
    have na : s1.heap.get? a = none := by
      cases z : s1.heap.get? a with
      | none => rfl
      | some o => exact absurd (Nat.lt_of_lt_of_le (Heap.lt_size z) M.new) (Nat.lt_irrefl _)
    exact ⟨a, _, _, s1, H1, .ref C, some dx, rfl, I1, M.keep, na, M.obj, ⟨rfl, rfl⟩, rfl, rfl, I1.hok.fresh M.new, rfl, I1.bare, L2.raises_own T.su T.ty, q dx⟩
theorem pm_err0 (T : ErrN X.K X.mg x C) (hg : Gl X x) (hdb : (x == (PySem.Str.ofString "__debug__")) = false := by decide) : L2.PMk X (.Call (.Name x p) [] [] pos) (fun _ H Q => Q (.ref C) none H) := by
  intro pins s σ H Q I h
  refine wpAny_Call_Name_kw (ld_glob I hg T.g ?_ hdb)
  refine PySem.W.callWith_K0 I.kIn T.kp ?_
  show wpAny _ _ (call (.ref C) []) _ _ _
  obtain ⟨bm, N, nm, qn, bs, hdct, sn, sub, ab, col, dd, k0, k1, k2, k3, k5, mN, hC, hN, hni, O⟩ := exc_obj I.kIn T.new
  refine wpAny_call_exc_subT PySem.F.excBase_Exception O hC hN hni (fun h' a M => ?_) (by show 0 ≤ sizeLine; exact Nat.zero_le _)
  exact L2.mk_of I M (L2.raises_own T.su T.ty) h (I.hok.gone M.new)
end
end Mine

set_option Elab.async false
set_option linter.all false
set_option maxRecDepth 100000
set_option maxHeartbeats 4000000
/-! Data of lists, tuples and small dicts as the abstract heap holds it, and its text. -/
namespace Mine
open PySem PySem.Spec L2
mutual
inductive DK (H : Hp) : V → PyData → Prop
  | non : DK H .non .none
  | bl (b : Bool) : DK H (.bl b) (.bool b)
  | int (i : Int) : DK H (.int i) (.int i)
  | str (x : Str) : DK H (.str x) (.str x)
  | lst {a : Addr} {xs : List V} {ds : List PyData} : H a = some (.lst xs) → DKs H xs ds → DK H (.ref a) (.list ds)
  | tup {a : Addr} {xs : List V} {ds : List PyData} : H a = some (.tup xs) → DKs H xs ds → DK H (.ref a) (.tuple ds)
  | dct0 {a : Addr} : H a = some (.dK []) → DK H (.ref a) (.dict [])
  | dct1 {a : Addr} {k : Str} {v : V} {d : PyData} : H a = some (.dK [(Sum.inr k, v)]) → DK H v d → DK H (.ref a) (.dict [(.str k, d)])
inductive DKs (H : Hp) : List V → List PyData → Prop
  | nil : DKs H [] []
  | cons {v : V} {vs : List V} {d : PyData} {ds : List PyData} : DK H v d → DKs H vs ds → DKs H (v :: vs) (d :: ds)
end
mutual
theorem DK.keeps {H H' : Hp} (k : ∀ b o, H b = some o → H' b = some o) : ∀ (d : PyData) (v : V), DK H v d → DK H' v d
  | .none, _, h => by cases h; exact .non
  | .bool b, _, h => by cases h; exact .bl b
  | .int i, _, h => by cases h; exact .int i
  | .str x, _, h => by cases h; exact .str x
  | .list ds, _, h => by
    cases h with
    | lst e r => exact .lst (k _ _ e) (DKs.keeps k ds _ r)
  | .tuple ds, _, h => by
    cases h with
    | tup e r => exact .tup (k _ _ e) (DKs.keeps k ds _ r)
  | .dict [], _, h => by
    cases h with
    | dct0 e => exact .dct0 (k _ _ e)
  | .dict [(kk, d)], _, h => by
    cases h with
    | dct1 e r => exact .dct1 (k _ _ e) (DK.keeps k d _ r)
  | .dict (_ :: _ :: _), _, h => by cases h
theorem DKs.keeps {H H' : Hp} (k : ∀ b o, H b = some o → H' b = some o) : ∀ (ds : List PyData) (vs : List V), DKs H vs ds → DKs H' vs ds
  | [], _, h => by cases h; exact .nil
  | d :: ds, _, h => by
    cases h with
    | cons h1 h2 => exact .cons (DK.keeps k d _ h1) (DKs.keeps k ds _ h2)
end
theorem DKs.len {H : Hp} : ∀ {vs : List V} {ds : List PyData}, DKs H vs ds → vs.length = ds.length
  | _, _, .nil => rfl
  | _, _, .cons _ r => by rw [List.length_cons, List.length_cons, r.len]
theorem DKs.snoc {H : Hp} {v : V} {d : PyData} (h : DK H v d) : ∀ {vs : List V} {ds : List PyData}, DKs H vs ds → DKs H (vs ++ [v]) (ds ++ [d])
  | _, _, .nil => .cons h .nil
  | _, _, .cons a r => .cons a (r.snoc h)

/-- what is asked of data that is shown: numbers of moderate size, a text of at most n signs, at most l deep -/
structure Shows (n l : Nat) (d : PyData) : Prop where
  ok : d.showable = true
  len : d.shown.length ≤ n
  dep : d.depth ≤ l

section
variable {prog : Program} {w : World} {X : Cx} {pins : List (Addr × Obj)} {σ : L2.St} {H : Hp} {s : Shared}
/-- reading, and the text under way -/
def Rk (prog : Program) (w : World) (h : Heap) (u : Value) (d : PyData) : Prop := (∃ as, Reads h u d as) ∧ ∃ bs, ReadAtMost h d.depth bs ∧ ReprK prog w bs h d.depth u d.shown
def Rks (prog : Program) (w : World) (h : Heap) (us : List Value) (ds : List PyData) : Prop := (∃ as, ReadsAll h us ds as) ∧ ∃ bs, ReadAtMost h (PyData.depthAll ds) bs ∧ ReprAllK prog w bs h (PyData.depthAll ds) us (PyData.shownAll ds)
theorem Rk.leaf {h : Heap} {u : Value} {d : PyData} {as : List Addr} (r : Reads h u d as) (i : ReprIs prog w u d.shown) : Rk prog w h u d := ⟨⟨_, r⟩, [], (fun _ z => nomatch z), .of_is i _ _ _⟩
theorem Rks.cons {h : Heap} {u : Value} {us : List Value} {d : PyData} {ds : List PyData} (a : Rk prog w h u d) (b : Rks prog w h us ds) : Rks prog w h (u :: us) (d :: ds) := by
  obtain ⟨⟨as, r1⟩, b1, m1, k1⟩ := a
  obtain ⟨⟨cs, r2⟩, b2, m2, k2⟩ := b
  refine ⟨⟨_, .cons r1 r2⟩, b1 ++ b2, ?_, ?_⟩
  · simp only [PyData.depthAll]
    exact (m1.mono (Nat.le_max_left _ _)).append (m2.mono (Nat.le_max_right _ _))
  · simp only [PyData.depthAll, PyData.shownAll]
    exact .cons ((k1.more fun _ z => List.mem_append_left _ z).level_le (Nat.le_max_left _ _)) (k2.more_le (fun _ z => List.mem_append_right _ z) (Nat.le_max_right _ _))
theorem Rk.list {h : Heap} {a : Addr} {o : Obj} {us : List Value} {n : Nat} {ds : List PyData} (h1 : h.get? a = some o) (h2 : o.cls = .type "list") (h3 : o.data = .seq us.toArray n) (r : Rks prog w h us ds) : Rk prog w h (.ref a) (.list ds) := by
  obtain ⟨⟨as, r⟩, bs, m, k⟩ := r
  have rd : Reads h (.ref a) (.list ds) (a :: as) := .list h1 h2 h3 r
  have out : a ∉ bs := not_mem_of_deeper rd (by simp only [PyData.depth]; omega) m
  refine ⟨⟨_, rd⟩, a :: bs, ReadAtMost.cons rd (by simp only [PyData.depth]; omega) m, ?_⟩
  simp only [PyData.depth, PyData.shown]
  cases us with
  | nil =>
    cases r
    simp only [PyData.shownAll, listText_nil]
    exact ReprK.listEmpty h1 h2 h3
  | cons x l => exact ReprK.list h1 h2 h3 out (by simpa using k.length_eq) fun i y e => k.item i y (by simpa using e)
theorem Rk.tuple {h : Heap} {a : Addr} {o : Obj} {us : List Value} {n : Nat} {ds : List PyData} (h1 : h.get? a = some o) (h2 : o.cls = .type "tuple") (h3 : o.data = .seq us.toArray n) (r : Rks prog w h us ds) : Rk prog w h (.ref a) (.tuple ds) := by
  obtain ⟨⟨as, r⟩, bs, m, k⟩ := r
  have rd : Reads h (.ref a) (.tuple ds) as := .tuple h1 h2 h3 r
  have out : a ∉ bs := not_mem_of_deeper rd (by simp only [PyData.depth]; omega) m
  refine ⟨⟨_, rd⟩, a :: bs, ReadAtMost.cons rd (by simp only [PyData.depth]; omega) m, ?_⟩
  simp only [PyData.depth, PyData.shown]
  exact ReprK.tuple h1 h2 h3 out k
theorem Rk.dict {h : Heap} {a : Addr} {o : Obj} {es : Array DictEntry} {n : Nat} {kvs : List (PyData × PyData)} (h1 : h.get? a = some o) (h2 : o.cls = .type "dict") (h3 : o.data = .dict es n) (h4 : (a == sysModules) = false)
    (rk : Rks prog w h (es.toList.map (·.key)) (kvs.map (·.1))) (rv : Rks prog w h (es.toList.map (·.val)) (kvs.map (·.2))) : Rk prog w h (.ref a) (.dict kvs) := by
  obtain ⟨⟨as, r1⟩, b1, m1, k1⟩ := rk
  obtain ⟨⟨cs, r2⟩, b2, m2, k2⟩ := rv
  have rd : Reads h (.ref a) (.dict kvs) _ := .dict h1 h2 h3 r1 r2
  have m : ReadAtMost h (PyData.depthKv kvs) (b1 ++ b2) := (m1.mono (PyData.depthAll_keys_le kvs)).append (m2.mono (PyData.depthAll_vals_le kvs))
  have out : a ∉ b1 ++ b2 := not_mem_of_deeper rd (by simp only [PyData.depth]; omega) m
  refine ⟨⟨_, rd⟩, a :: (b1 ++ b2), ReadAtMost.cons rd (by simp only [PyData.depth]; omega) m, ?_⟩
  simp only [PyData.depth, PyData.shown, PyData.shownKv_eq]
  exact ReprK.dict h1 h2 h3 h4 out (ReprEntriesK.of_two es.toList _ _ (k1.more_le (fun _ z => List.mem_append_left _ z) (PyData.depthAll_keys_le kvs)) (k2.more_le (fun _ z => List.mem_append_right _ z) (PyData.depthAll_vals_le kvs)))
mutual
theorem DK.rk (I : L2.Inv X pins σ H s) : ∀ (d : PyData) (v : V) (u : Value), DK H v d → L2.RelV v u → d.showable = true → d.shown.length ≤ sizeLine → Rk X.prog X.w s.heap u d
  | .none, _, _, h, r, _, _ => by
    cases h; cases r
    exact Rk.leaf .none (by simp only [PyData.shown]; exact ReprIs.none)
  | .bool b, _, _, h, r, _, _ => by
    cases h; cases r
    exact Rk.leaf (.bool b) (by simp only [PyData.shown]; exact ReprIs.bool b)
  | .int i, _, _, h, r, ok, _ => by
    cases h
    obtain ⟨t, rfl⟩ := r
    exact Rk.leaf (.int i t) (by simp only [PyData.shown]; exact ReprIs.int t (by simpa [PyData.showable] using ok))
  | .str x, _, _, h, r, _, hz => by
    cases h
    obtain ⟨t, rfl⟩ := r
    exact Rk.leaf (.str x t) (by simp only [PyData.shown]; exact ReprIs.str x t (by simpa only [PyData.shown] using hz))
  | .list ds, _, _, h, r, ok, hz => by
    cases h with
    | lst e r' =>
      cases r
      obtain ⟨_, its, n, rv, he⟩ := (show ObjOk X.prog X.w H s.heap _ (.lst _) from I.hok _ _ e)
      have hz' : (listText (PyData.shownAll ds)).length ≤ sizeLine := by simpa only [PyData.shown] using hz
      exact Rk.list he rfl rfl (DKs.rks I ds _ its r' rv (by simpa [PyData.showable] using ok) fun t ht => Nat.le_trans (listText_mem_le ht) hz')
  | .tuple ds, _, _, h, r, ok, hz => by
    cases h with
    | tup e r' =>
      cases r
      obtain ⟨_, its, rv, o, he, hc, n, hd⟩ := (show ObjOk X.prog X.w H s.heap _ (.tup _) from I.hok _ _ e)
      have hz' : (tupleText (PyData.shownAll ds)).length ≤ sizeLine := by simpa only [PyData.shown] using hz
      exact Rk.tuple he hc hd (DKs.rks I ds _ its r' rv (by simpa [PyData.showable] using ok) fun t ht => Nat.le_trans (tupleText_mem_le ht) hz')
  | .dict [], _, _, h, r, _, _ => by
    cases h with
    | dct0 e =>
      cases r
      obtain ⟨_, hs, vs, rel, o, es, ep, he, hx, hd, _, hp, _⟩ := (show ObjOk X.prog X.w H s.heap _ (.dK _) from I.hok _ _ e)
      cases rel
      have e0 : es.toList = [] := by
        cases q : es.toList with
        | nil => rfl
        | cons a b => rw [q] at hp; cases hp
      refine Rk.dict he hx.1 hd hs ?_ ?_
      all_goals
        rw [e0]
        exact ⟨⟨_, .nil⟩, [], (fun _ z => nomatch z), .nil⟩
  | .dict [(kk, d)], _, _, h, r, ok, hz => by
    cases h with
    | @dct1 a k v d e r' =>
      cases r
      obtain ⟨_, hs, vs, rel, o, es, ep, he, hx, hd, _, hp, _⟩ := (show ObjOk X.prog X.w H s.heap _ (.dK _) from I.hok _ _ e)
      have hz' : (dictText (PyData.shownKv [(.str k, d)])).length ≤ sizeLine := by simpa only [PyData.shown] using hz
      have ok' : PyData.showable (.str k) = true ∧ d.showable = true := by simpa [PyData.showable, PyData.showableKv] using ok
      have one : ∀ t ∈ PyData.shownKv [(.str k, d)], t.length ≤ sizeLine := fun t ht => Nat.le_trans (dictText_mem_le ht) hz'
      cases rel with
      | @cons p q _ _ pq rest =>
        cases rest
        obtain ⟨qk, qv⟩ := q
        obtain ⟨e1, rv⟩ := pq
        dsimp only at e1 rv
        subst e1
        obtain ⟨en, e0, ek, ev⟩ : ∃ en, es.toList = [en] ∧ keyIs (Sum.inr k) en.key = true ∧ en.val = qv := by
          cases q : es.toList with
          | nil => rw [q] at hp; cases hp
          | cons a b =>
            rw [q] at hp
            cases hp with
            | cons h1 h2 h3 =>
              cases h3
              exact ⟨a, rfl, h1, h2⟩
        obtain ⟨t, ek'⟩ := Value.isStrOf_shape (x := k) (v := en.key) ek
        have z1 : (PyData.shown (.str k)).length ≤ sizeLine := by
          obtain ⟨p, hp, hl⟩ := PyData.shownKv_key_le [(.str k, d)] (PyData.shown (.str k)) (by simp only [List.map_cons, PyData.shownAll]; exact List.mem_cons_self ..)
          exact Nat.le_trans hl (one p hp)
        have z2 : d.shown.length ≤ sizeLine := by
          obtain ⟨p, hp, hl⟩ := PyData.shownKv_val_le [(.str k, d)] d.shown (by simp only [List.map_cons, PyData.shownAll]; exact List.mem_cons_self ..)
          exact Nat.le_trans hl (one p hp)
        refine Rk.dict he hx.1 hd hs ?_ ?_
        · rw [e0]
          show Rks _ _ _ [en.key] [PyData.str k]
          rw [ek']
          exact Rks.cons (Rk.leaf (.str k t) (by simp only [PyData.shown]; exact ReprIs.str k t (by simpa only [PyData.shown] using z1))) ⟨⟨_, .nil⟩, [], (fun _ z => nomatch z), .nil⟩
        · rw [e0]
          show Rks _ _ _ [en.val] [d]
          rw [ev]
          exact Rks.cons (DK.rk I d v qv r' rv ok'.2 z2) ⟨⟨_, .nil⟩, [], (fun _ z => nomatch z), .nil⟩
  | .dict (_ :: _ :: _), _, _, h, _, _, _ => by cases h
theorem DKs.rks (I : L2.Inv X pins σ H s) : ∀ (ds : List PyData) (vs : List V) (us : List Value), DKs H vs ds → L2.Vals vs us → PyData.showableAll ds = true → (∀ t ∈ PyData.shownAll ds, t.length ≤ sizeLine) → Rks X.prog X.w s.heap us ds
  | [], _, _, h, r, _, _ => by
    cases h; cases r
    exact ⟨⟨_, .nil⟩, [], (fun _ z => nomatch z), .nil⟩
  | d :: ds, _, _, h, r, ok, hz => by
    have ok' : d.showable = true ∧ PyData.showableAll ds = true := by simpa [PyData.showableAll] using ok
    cases h with
    | cons h1 h2 =>
      cases r with
      | cons r1 r2 =>
        exact Rks.cons (DK.rk I d _ _ h1 r1 ok'.1 (hz _ (by simp only [PyData.shownAll]; exact List.mem_cons_self ..))) (DKs.rks I ds _ _ h2 r2 ok'.2 fun t ht => hz t (by simp only [PyData.shownAll]; exact List.mem_cons_of_mem _ ht))
end
end
/-- repr of a list -/
def rRepr : List V → Hp → VK → Prop := fun xs H Q => ∃ (a : Addr) (ds : List PyData), xs = [.ref a] ∧ DK H (.ref a) (.list ds) ∧ Shows sizeLine 20 (.list ds) ∧ Q (.str (PyData.shown (.list ds))) H
theorem call_reprD {X : Cx} (hg : X.A.guards = some []) (hu : X.A.units + 40 < cLine) : CallR X (.builtin "repr") rRepr := by
  intro pins s σ H xs us Q I r h
  obtain ⟨a, ds, rfl, hd, S, q⟩ := h
  obtain ⟨u, rfl, rv⟩ := vals1 r
  cases (show u = Value.ref a from rv)
  have rk : Rk X.prog X.w s.heap (.ref a) (.list ds) := DK.rk I (.list ds) (.ref a) (.ref a) hd rfl S.ok S.len
  cases hd with
  | lst e r' =>
    obtain ⟨_, its, n, rvs, he⟩ := (show ObjOk X.prog X.w H s.heap _ (.lst _) from I.hok _ _ e)
    have hz' : (listText (PyData.shownAll ds)).length ≤ sizeLine := by simpa only [PyData.shown] using S.len
    have rks := DKs.rks I ds _ its r' rvs (by simpa [PyData.showable] using S.ok) fun t ht => Nat.le_trans (listText_mem_le ht) hz'
    obtain ⟨⟨as, ra⟩, bs, m, k⟩ := rks
    have rd : Reads s.heap (.ref a) (.list ds) (a :: as) := .list he rfl rfl ra
    have out : a ∉ bs := not_mem_of_deeper rd (by simp only [PyData.depth]; omega) m
    have dep : PyData.depthAll ds + 1 ≤ 20 := by simpa only [PyData.depth] using S.dep
    have fin : ∀ h' u tk, (∀ b o, s.heap.get? b = some o → h'.get? b = some o) → L2.EP X pins σ Q (.str (PyData.shown (.list ds)) u) { s with heap := h', toks := tk } := fun h' u tk kp => ⟨.str _, H, I.kept kp, ⟨_, rfl⟩, q⟩
    refine call_repr_slot (by omega) ⟨_, he, rfl⟩ PySem.F.slot_list_repr.toG ?_
    cases its with
    | nil =>
      cases ra
      refine call_list_repr_empty ⟨_, he, rfl⟩ he rfl ⟨_, _, rfl, ?_⟩
      have e0 : PyData.shown (.list []) = ("[]" : Str) := by simp only [PyData.shown, PyData.shownAll, listText_nil]
      rw [← e0]
      exact fin _ _ _ fun _ _ z => z
    | cons x l =>
      refine call_list_reprK he rfl rfl out (by simpa using k.length_eq) (fun i y e => k.item i y (by simpa using e)) (A := X.A.in1) hg (fun b _ => Clear.nil b) (by show X.A.units + 1 + _ < _; omega) (fun _ _ z => z) (fun h' u tk kp => ⟨_, _, rfl, ?_⟩) hz'
      have e0 : PyData.shown (.list ds) = listText (PyData.shownAll ds) := by simp only [PyData.shown]
      rw [← e0]
      exact fin h' u tk kp
end Mine

set_option Elab.async false
set_option linter.all false
set_option maxRecDepth 100000
set_option maxHeartbeats 4000000
/-! Promises of defs that are called where nothing is being shown (no repr runs): so that they may show data themselves. -/
namespace Mine
open PySem PySem.Spec L2
/-- a def's promise, kept wherever no repr is under way -/
structure FnG (P : Program) (w : World) (K : PySem.W.Frag) (mg : Str → Option Value) (base : Heap) (k : Nat) (f : Addr) (fd : FuncData) (ps : List Str) (sp : L2.Sp) : Prop where
  len : ∀ vs H Q E, sp vs H Q E → vs.length = ps.length
  run : ∀ (A : Around) (outer : List Env) (s : Shared) (H : Hp) (args : Args) (us : List Value) (vs : List V) (Q : L2.VK) (E : L2.XK), L2.Room k A → A.guards = some [] → L2.Env0 P w K mg base A outer s H → BindsTo s fd args (ps.zip us) → L2.Vals vs us → sp vs H Q E →
    codeAny (model P w) A (.call (.ref f) args) (L2.CR L2.CX0 outer P w H s Q E) s
theorem fnG_of {P : Program} {w : World} {K : PySem.W.Frag} {mg : Str → Option Value} {base : Heap} {k : Nat} {x qual : Str} {st : Stmt} {f : Addr} {fd : FuncData} {N ps : List Str} {sp : L2.Sp} (F : Fun K x qual st f fd) (S : FnScope N ps (defScope st))
    (len : ∀ vs H Q E, sp vs H Q E → vs.length = ps.length)
    (body : ∀ (cdv : Value) (A : Around) (outer : List Env) (s : Shared) (H : Hp) (vs : List V) (Q : L2.VK) (E : L2.XK), L2.Room k (A.deeper (PyProof.Rows.envOfC qual (defScope st) s.heap.objs.size f cdv)) → (A.deeper (PyProof.Rows.envOfC qual (defScope st) s.heap.objs.size f cdv)).guards = some [] → sp vs H Q E →
      ∃ t, PSs (cxOf CX0 P w K mg base N qual (defScope st) f cdv A outer s H E).nox (defBody st) t ∧ t { nx := fun _ H' => Q .non H', rt := Q } (start N vs) H) : FnG P w K mg base (k + 1) f fd ps sp := by
  obtain ⟨oc, od, kV, doc, pm, an, cdv, ct, osl, rfl, lk, hcd⟩ := F.ex
  refine ⟨len, fun A outer s H args us vs Q E hr hg e0 hb r q => ?_⟩
  have inS : ∀ b o, base.get? b = some o → s.heap.get? b = some o := fun b o z => (e0.bs b o z).1
  have hl := len _ _ _ _ q
  have kinds : ∀ y ∈ ps.zip us, (defScope st).names.lookup y.1 = some .local ∨ ((defScope st).names.lookup y.1 = some .cell ∧ ((cellsFrom (s.heap.objs.size + 1) (defScope st).names []).lookup y.1).isSome = true) := by
    intro y hy
    obtain ⟨n, v⟩ := y
    rcases S.par n (List.of_mem_zip hy).1 with z | z
    · exact .inl z
    · exact .inr ⟨z, PySem.W.cellsFrom_some _ _ _ (.inl z)⟩
  have KX := e0.mod.kin.keeps inS
  refine codeAny_call_function hr.depth (KX _ _ lk) rfl S.co S.gen rfl (PySem.W.codeRec_of KX hcd) (hb _ _ _ _ ?_)
  refine wpAny_newFunctionEnv_cells S.kind kinds fun env he s1 x => ?_
  subst he
  refine ⟨(e0.mod.nolimit.keeps inS).keeps x.toInCall.keep, codeAny_func ?_⟩
  obtain ⟨t, ht, hq⟩ := body cdv A outer s H vs Q E (hr.deeper _) hg q
  have I := inv_start (CX := CX0) (E := E) S hr.hd e0 hl r x
  refine wpAny_mono (ht.nox.run [] s1 (start N vs) H _ I hq) (fun fl s' hs => ?_) fun _ _ z => z
  have done : ∀ {σ' : L2.St} {H' : Hp} {v : V} {u : Value}, L2.Inv (cxOf CX0 P w K mg base N qual (defScope st) f cdv A outer s H E) [] σ' H' s' → L2.RelV v u → Q v H' → L2.CE outer P w H s Q u s' :=
    fun J rv z => ⟨_, _, J.os, J.bare, J.base, J.hok, rv, z⟩
  cases fl with
  | ret u =>
    obtain ⟨v, σ', H', J, rv, z⟩ := hs
    exact done J rv z
  | next =>
    obtain ⟨σ', H', J, z⟩ := hs
    exact done (v := V.non) (u := Value.none) J rfl z
  | brk =>
    obtain ⟨_, _, _, z⟩ := hs
    exact False.elim z
  | cont =>
    obtain ⟨_, _, _, z⟩ := hs
    exact False.elim z
section
variable {X : Cx} {k : Nat} {f : Addr} {fd : FuncData} {ps : List Str} {sp : L2.Sp} {x : Str} {p pos : Pos} {e : Expr} {es : List Expr} {t : L2.TA}
/-- such a def called -/
def tCallG (sp : L2.Sp) (t : L2.TA) : L2.TE := fun σ H Q => t σ H fun vs H1 => sp vs H1 Q fun _ _ _ => False
theorem pe_callG (F : FnG X.prog X.w X.K X.mg X.base k f fd ps sp) (hr : L2.Room k X.A) (hgd : X.A.guards = some []) (hg : Gl X x) (hm : X.mg x = some (.ref f)) (hk : PySem.W.keepIn X.K (.ref f) = true) (hb : L2.Binds X.K fd ps [])
    (ha : L2.PA X (e :: es) t) (hdb : (x == (PySem.Str.ofString "__debug__")) = false := by decide) (he : starEach (e :: es) X.env = (false, eval e X.env) :: starEach es X.env := by rfl) (hpl : (backTo pos (starEach es X.env)).any (·.1) = false := by rfl) :
    L2.PE X (.Call (.Name x p) (e :: es) [] pos) (tCallG sp t) := by
  refine ⟨fun pins s σ H Q I h => ?_⟩
  refine wpAny_Call_Name_kw (ld_glob I hg hm ?_ hdb)
  refine PySem.W.callWith_K (h₀ := X.base) I.ok.mod.kin hk (thn (ha.run pos pins s σ H _ I h) fun us s1 ⟨vs, H1, I1, r, q⟩ => ⟨I1.kIn, ?_⟩) he hpl
  have hl : us.length = ps.length := by
    rw [← r.length]
    exact F.len _ _ _ _ q
  have b := hb s1 us I1.kIn (by rw [List.append_nil]; exact hl)
  rw [List.append_nil] at b
  refine wpAny_call (codeAny_mono (F.run X.A X.stack s1 H1 ⟨us, []⟩ us vs Q _ hr hgd I1.env0 b r q) fun r s' hq => ?_)
  cases r with
  | error e => exact pass0 pins σ H1 s1 e s' I1 hq
  | ok fl =>
    cases fl with
    | ret u => exact I1.after hq
    | next => exact False.elim hq
    | brk => exact False.elim hq
    | cont => exact False.elim hq
end
end Mine
namespace Mine
open PySem PySem.Spec PyProof.Rows L2
/-! the law's own end -/
section
variable {P : Program} {w : World} {K : PySem.W.Frag} {mg mb : Str → Option Value} {k : Nat} {fa a : Addr} {fd : FuncData} {x : Str} {sp : L2.Sp} {s₁ : Shared} {vs : List Value} {ns : List Int}
/-- what is asked of the law's call -/
def LawEnd (P : Program) (w : World) (fa a : Addr) (s₁ : Shared) : Prop :=
  codeAny (model P w) callerA (.call (.ref fa) ⟨[.ref a], []⟩) (fun r s' => r = .ok (.ret (.bool true)) ∧ OldK s₁.heap s'.heap ∧ s'.os = s₁.os ∧ AllBare s'.gens) s₁
theorem end_from (KX : K.In s₁.heap) (hns : s₁.heap.Ns mainGlobals mg) (hb : s₁.heap.Ns builtinsNs mb) (hbb : ∀ x : Str, x ≠ "__name__" → mb x = bootBuiltins x) (hlim : s₁.heap.NoLimit) (hg : s₁.gens = #[])
    (ha : s₁.heap.get? a = some { cls := .type "list", data := .seq vs.toArray }) (hr : L2.Room k callerA)
    (F : ∀ base : Heap, K.In base → base.Ns mainGlobals mg → FnG P w K mg base k fa fd [x] sp) (hbind : ∀ (s : Shared) (u : Value), BindsTo s fd ⟨[u], []⟩ [(x, u)])
    (H : Hp) (hO : L2.Only H) (ok : L2.HOk P w H s₁.heap) (at_ : ∀ b, H b ≠ none → b = a) (notK : H a ≠ none → K.lookup a = none) (hsp : sp [.ref a] H (fun v _ => v = .bl true) fun _ _ _ => False) : LawEnd P w fa a s₁ := by
  have free : ∀ {b : Addr} {o : Obj} {es : Array DictEntry} {ep : Nat}, s₁.heap.get? b = some o → o.data = .dict es ep → H b = none := by
    intro b o es ep e d
    cases q : H b with
    | none => rfl
    | some u =>
      have z : b = a := at_ b (by rw [q]; exact fun y => nomatch y)
      subst z
      rw [ha] at e
      cases e
      cases d
  have names : ∀ {b : Addr} {m : Str → Option Value}, s₁.heap.Ns b m → (hidT s₁.heap H).Ns b m := fun {b m} ⟨o, es, ep, e, d, r⟩ => ⟨o, es, ep, hidT_get e (free e d), d, r⟩
  have Kb : K.In (hidT s₁.heap H) := fun b o e => hidT_get (KX b o e) (by
    cases q : H b with
    | none => rfl
    | some u =>
      have z : b = a := at_ b (by rw [q]; exact fun y => nomatch y)
      subst z
      rw [notK (by rw [q]; exact fun y => nomatch y)] at e
      cases e)
  have hM : L2.Mod K mg (hidT s₁.heap H) := ⟨Kb, names hns, ⟨mb, names hb, hbb⟩, let ⟨mc, h1, h2⟩ := hlim; ⟨mc, names h1, h2⟩⟩
  have e0 : L2.Env0 P w K mg (hidT s₁.heap H) callerA [] s₁ H := ⟨rfl, hM, fun b o e => of_hidT e, Nat.le_of_eq (hidT_size _ _), trivial, fun b z => absurd (show b ∈ ([] : List Addr) from z) (by simp), ok, .of_eq hg⟩
  refine codeAny_mono ((F _ Kb (names hns)).run callerA [] s₁ H ⟨[.ref a], []⟩ [.ref a] [.ref a] _ _ hr rfl e0 (hbind s₁ (.ref a)) (.cons rfl .nil) hsp) fun r s' h => ?_
  rcases r with e | fl
  · exact False.elim h
  cases fl with
  | next => exact False.elim h
  | brk => exact False.elim h
  | cont => exact False.elim h
  | ret u =>
    obtain ⟨v, H', os, bare, un, ok', r', q⟩ := h
    obtain rfl : v = .bl true := q
    obtain rfl : u = Value.bool true := r'
    refine ⟨rfl, OldK.of_keep fun b o e => ?_, os, bare⟩
    cases q : H b with
    | none => exact un.keep b o e q (fun z => absurd (show b ∈ ([] : List Addr) from z) (by simp)) (by simp)
    | some u =>
      rcases hO b with z | ⟨ob, xs, z⟩
      · rw [q] at z
        cases z
      · obtain ⟨e1, _⟩ := ok b _ z
        obtain ⟨e2, _⟩ := ok' b _ (un.frzs b ob _ z)
        rw [e] at e1
        cases e1
        exact e2
theorem law_callG (KX : K.In s₁.heap) (hns : s₁.heap.Ns mainGlobals mg) (hb : s₁.heap.Ns builtinsNs mb) (hbb : ∀ x : Str, x ≠ "__name__" → mb x = bootBuiltins x) (hlim : s₁.heap.NoLimit) (hg : s₁.gens = #[])
    (ha : s₁.heap.get? a = some { cls := .type "list", data := .seq vs.toArray }) (hi : IntsAre vs ns) (hl : ns.length ≤ sizeLine) (hr : L2.Room k callerA)
    (F : ∀ base : Heap, K.In base → base.Ns mainGlobals mg → FnG P w K mg base k fa fd [x] sp) (hbind : ∀ (s : Shared) (u : Value), BindsTo s fd ⟨[u], []⟩ [(x, u)])
    (hsp : ∀ H : Hp, L2.Only H → SqL K H a (ns.map V.int) → sp [.ref a] H (fun v _ => v = .bl true) fun _ _ _ => False) : LawEnd P w fa a s₁ := by
  have rv := vals_ints hi
  have lenV := hi.length
  cases hk : K.lookup a with
  | some o =>
    have e := KX a o hk
    rw [ha] at e
    cases e
    have none_ : L2.Only (fun _ => none) := fun _ => .inl rfl
    exact end_from KX hns hb hbb hlim hg ha hr F hbind _ none_ (fun _ _ z => nomatch z) (fun _ z => absurd rfl z) (fun z => absurd rfl z)
      (hsp _ none_ (.inr ⟨_, vs.toArray, _, hk, rfl, rfl, rfl, by rw [List.size_toArray, lenV]; exact hl, by simpa using rv⟩))
  | none =>
    let H1 : Hp := fun b => if b = a then some (.frz { cls := .type "list", data := .seq vs.toArray } (.lst (ns.map V.int))) else none
    have at1 : H1 a = some (.frz { cls := .type "list", data := .seq vs.toArray } (.lst (ns.map V.int))) := if_pos rfl
    have ne1 : ∀ {b}, b ≠ a → H1 b = none := fun h => if_neg h
    have only1 : L2.Only H1 := fun b => by
      by_cases h : b = a
      · exact .inr ⟨_, _, by rw [h]; exact at1⟩
      · exact .inl (ne1 h)
    refine end_from KX hns hb hbb hlim hg ha hr F hbind H1 only1 (fun b u z => ?_) (fun b z => ?_) (fun _ => hk) (hsp _ only1 (.inl (.inr ⟨_, at1⟩)))
    · by_cases h : b = a
      · subst h
        rw [at1] at z
        cases z
        exact ⟨ha, by rw [List.length_map]; exact hl, vs, _, rv, ha⟩
      · rw [ne1 h] at z
        cases z
    · by_cases h : b = a
      · exact h
      · exact absurd (ne1 h) z
end
theorem walkG {l : PySem.W.OpenLaw} {n k : Nat} {q : Program} {loose : List Str} {XP : (Str → Option Value) → Heap → Prop} {YP : World → Heap → Prop} {d : DefRec} {K : Params → PySem.W.Frag} {sp : PySem.W.Frag → L2.Sp} {x : Str}
    (hn : l.most = some n) (hn2 : n ≤ sizeLine) (hdf : d.params.defaults = []) (hr : L2.Room k callerA) (hY : ∀ (w : World) (h : Heap), YP w h → (K w.params).In h)
    (F : ∀ (w : World) (mg : Str → Option Value) (fa : Addr) (h : Heap), (K w.params).In h → h.Ns mainGlobals mg → mg d.name = some (.ref fa) →
      ∃ fd : FuncData, (∀ (s : Shared) (u : Value), BindsTo s fd ⟨[u], []⟩ [(x, u)]) ∧ ∀ base : Heap, (K w.params).In base → base.Ns mainGlobals mg → FnG l.prog w (K w.params) mg base k fa fd [x] (sp (K w.params)))
    (hsp : ∀ (K : PySem.W.Frag) (H : Hp) (a : Addr) (ns : List Int), ns.length ≤ n → L2.Only H → SqL K H a (ns.map V.int) → sp K [.ref a] H (fun v _ => v = .bl true) fun _ _ _ => False) :
    PySem.W.WalkO q loose XP YP l.row.toRowW d [] (fun f vs => PySem.call f vs) := by
  refine Att.attach_call hn hdf fun w s₀ s₁ mg mb fa o pm cd doc a vs ns G Y ho hd hcd hmg hobj hints hlen hg => ?_
  have KX := hY w _ Y
  obtain ⟨fd, hb, hF⟩ := F w mg fa _ KX G.T.g hmg
  exact law_callG KX G.T.g G.T.b G.T.builtins G.T.nolimit hg hobj hints (Nat.le_trans hlen hn2) hr hF hb fun H hO hS => hsp (K w.params) H a ns hlen hO hS
end Mine

set_option Elab.async false
set_option linter.all false
set_option maxRecDepth 100000
set_option maxHeartbeats 4000000
/-! tuple(xs) as a plain tuple; dict(t) of a plain tuple of pairs. -/
namespace Mine
open PySem PySem.Spec PyProof.Rows L2
/-- a tuple that has no dict of its own -/
def TupN (K : PySem.W.Frag) (H : Hp) (a : Addr) (xs : List V) : Prop := (∃ o, H a = some (.frz o (.tup xs)) ∧ o.dict = none) ∨ (SqT K H a xs ∧ ∃ o, K.lookup a = some o ∧ o.dict = none)
theorem TupN.sq {K : PySem.W.Frag} {H : Hp} {a : Addr} {xs : List V} (h : TupN K H a xs) : SqT K H a xs := by
  rcases h with ⟨o, e, _⟩ | ⟨h, _⟩
  · exact .inl (.inr ⟨o, e⟩)
  · exact h
section
variable {X : Cx} {pins : List (Addr × Obj)} {σ : L2.St} {H : Hp} {s : Shared}
theorem call_tupleF : CallR X (.type "tuple") (fun xs H Q => ∃ p ys, xs = [.ref p] ∧ SqL X.K H p ys ∧ ∀ l o, H l = none → o.dict = none → Q (.ref l) (upd H l (.frz o (.tup ys)))) := by
  intro pins s σ H xs us Q I r h
  obtain ⟨p, ys, rfl, hq, q⟩ := h
  obtain ⟨u, rfl, rx⟩ := vals1 r
  cases rx
  obtain ⟨its, r', pl, hz⟩ := I.list hq
  have hlen := r'.length
  refine call_tuple_list pl.isList (fun h' kp => ?_) (by simp only [List.size_toArray] <;> omega)
  have I1 : L2.Inv X pins σ H { s with heap := h' } := I.kept (t' := s.toks) kp
  have I2 : L2.Inv X pins σ (upd H h'.objs.size (.frz { cls := .type "tuple", data := .seq its.toArray } (.tup ys))) { s with heap := h'.push { cls := .type "tuple", data := .seq its.toArray } } :=
    I1.laid (t' := s.toks) (fun b o e => Heap.get?_push_of_some _ e) (Nat.le_refl _) (show ObjOk X.prog X.w _ _ _ (.frz _ (.tup ys)) from ⟨Heap.get?_push_size _ rfl, hz, its, r', IsTup.new _ _⟩)
  exact ⟨.ref h'.objs.size, _, I2, rfl, q _ _ (I1.hok.fresh (Nat.le_refl _)) rfl⟩
theorem tupN_at {a : Addr} {xs : List V} (I : L2.Inv X pins σ H s) (h : TupN X.K H a xs) : ∃ (its : List Value) (o : Obj) (n : Nat), Vals xs its ∧ s.heap.get? a = some o ∧ o.cls = .type "tuple" ∧ o.dict = none ∧ o.data = .seq its.toArray n ∧ xs.length ≤ sizeLine := by
  rcases h with ⟨o, e, hd⟩ | ⟨h, o, hk, hd⟩
  · obtain ⟨g, hz, its, rv, o', ho, hc, n, hdat⟩ := (show ObjOk X.prog X.w H s.heap _ (.frz o (.tup xs)) from I.hok _ _ e)
    rw [g] at ho
    cases ho
    exact ⟨its, o, n, rv, g, hc, hd, hdat, hz⟩
  · obtain ⟨its, rv, ⟨o', ho, hc, n, hdat⟩, hz⟩ := I.tuple h
    have g := I.kIn a o hk
    rw [g] at ho
    cases ho
    exact ⟨its, o, n, rv, g, hc, hd, hdat, hz⟩
theorem pairs_all (I : L2.Inv X pins σ H s) : ∀ {ps : List Addr} {kvs : List (Key × V)}, Paired (fun p kv => SqT X.K H p [kV kv.1, kv.2]) ps kvs →
    ∃ L : List (Addr × Key × Value × Value), ps = L.map (·.1) ∧ KV kvs (L.map fun x => (x.2.1, x.2.2.2)) ∧ ∀ x ∈ L, IsTup s.heap x.1 #[x.2.2.1, x.2.2.2] ∧ keyIs x.2.1 x.2.2.1 = true
  | _, _, .nil => ⟨[], rfl, .nil, fun _ z => (List.not_mem_nil z).elim⟩
  | _, _, .cons (a := p) (b := kv) h t => by
    obtain ⟨L, e, r, hp⟩ := pairs_all I t
    obtain ⟨its, rv, ht, _⟩ := I.tuple h
    obtain ⟨u, y, ei, ru, ry⟩ := vals2 rv
    subst ei
    refine ⟨(p, kv.1, u, y) :: L, by rw [e]; rfl, .cons ⟨rfl, ry⟩ r, fun x hx => ?_⟩
    rcases List.mem_cons.mp hx with rfl | hx
    · exact ⟨ht, kV_is (P := X.prog) (w := X.w) ru⟩
    · exact hp x hx
theorem call_dictPT (hcalm : X.calm = true) : CallR X (.type "dict") (fun xs H Q => ∃ (a : Addr) (ps : List Addr) (kvs : List (Key × V)), xs = [.ref a] ∧ TupN X.K H a (ps.map V.ref) ∧ Paired (fun p kv => SqT X.K H p [kV kv.1, kv.2]) ps kvs ∧
    ∀ p, H p = none → Q (.ref p) (upd H p (.dK (mergeK [] kvs)))) := by
  intro pins s σ H xs us Q I r q
  obtain ⟨a, ps, kvs, ex, hq, hp, q⟩ := q
  subst ex
  obtain ⟨u, eu, rx⟩ := vals1 r
  subst eu
  cases rx
  obtain ⟨its, o, n, rv, ho, hc, hd, hdat, hz⟩ := tupN_at I hq
  have ei := refs_at rv
  subst ei
  rw [List.length_map] at hz
  obtain ⟨L, el, rel, hL⟩ := pairs_all I hp
  subst el
  rw [List.length_map] at hz
  have ok : PlainSeq "tuple" s.heap a ((L.map (·.1)).map Value.ref).toArray ∧ PairItems s.heap ((L.map (·.1)).map Value.ref).toArray (fun j => (L.map (·.1)).getD j 0) (L.map fun x => (x.2.2.1, x.2.2.2)) := by
    refine ⟨⟨o, n, ho, hc, hd, hdat⟩, by simp, fun j k v e => ?_⟩
    rw [List.getElem?_map] at e
    obtain ⟨x, hx, e⟩ := Option.map_eq_some_iff.mp e
    cases e
    have hj : (L.map (·.1))[j]? = some x.1 := by rw [List.getElem?_map, hx]; rfl
    refine ⟨by simp [hx, List.getD], .inl ?_⟩
    have : (L.map (·.1)).getD j 0 = x.1 := by rw [List.getD, hj]; rfl
    show s.heap.IsTuple ((L.map (·.1)).getD j 0) #[x.2.2.1, x.2.2.2]
    rw [this]
    exact (hL x (List.mem_of_getElem? hx)).1
  have hv : PairsHave (mixKind X.prog X.w) (L.map fun x => (x.2.2.1, x.2.2.2)).length (PairRel (L.map fun x => (x.2.2.1, x.2.2.2))) (L.map fun x => (x.2.1, x.2.2.2)) := by
    refine ⟨by simp, fun i key v e => ?_⟩
    have e : (L.map fun x => (x.2.2.1, x.2.2.2))[i]? = some (key, v) := e
    rw [List.getElem?_map] at e
    obtain ⟨x, hx, e⟩ := Option.map_eq_some_iff.mp e
    cases e
    exact ⟨x.2.1, by rw [List.getElem?_map, hx]; rfl, (hL x (List.mem_of_getElem? hx)).2⟩
  refine PySem.call_dict_pairs (PairArg.tuple a _ _ _) (I.ok.hd hcalm) ok hv (by rw [List.length_map]; exact hz) fun h' tk hd' k => ?_
  have hm : (s.heap.objs.size == sysModules) = false := beq_eq_false_iff_ne.mpr (Nat.ne_of_gt I.big)
  have hlen : (mergeK [] kvs).length ≤ sizeLine := by
    refine Nat.le_trans (length_mergeK kvs []) ?_
    rw [List.length_nil, Nat.zero_add, rel.length, List.length_map]
    exact hz
  exact ⟨.ref s.heap.objs.size, upd H s.heap.objs.size (.dK (mergeK [] kvs)), I.laid (t' := tk) (fun b o e => k b o (List.not_mem_nil) e) (Nat.le_refl _) (show ObjOk X.prog X.w _ _ _ (.dK (mergeK [] kvs)) from ⟨hlen, hm, merged [] _, KV.merge rel .nil, hd'⟩), rfl, q _ (I.hok.fresh (Nat.le_refl _))⟩
end
end Mine

set_option Elab.async false
set_option linter.all false
set_option maxRecDepth 100000
set_option maxHeartbeats 4000000
/-! The text of a list in which plain tuples stand, too. -/
namespace Mine
open PySem PySem.Spec PyProof.Rows L2
/-- a plain tuple -/
def Fz (H : Hp) (a : Addr) (xs : List V) : Prop := ∃ o, H a = some (.frz o (.tup xs)) ∧ o.dict = none
theorem Fz.sq {K : PySem.W.Frag} {H : Hp} {a : Addr} {xs : List V} (h : Fz H a xs) : SqT K H a xs := let ⟨o, e, _⟩ := h; .inl (.inr ⟨o, e⟩)
theorem Fz.n {K : PySem.W.Frag} {H : Hp} {a : Addr} {xs : List V} (h : Fz H a xs) : TupN K H a xs := .inl h
theorem Fz.upd {H : Hp} {a q : Addr} {xs : List V} {o : HO} (h : Fz H a xs) (hq : H q = none) : Fz (upd H q o) a xs := let ⟨o', e, d⟩ := h; ⟨o', (upd_ne (ne_of_none e hq)).trans e, d⟩
inductive DZ (H : Hp) : V → PyData → Prop
  | dk {v : V} {d : PyData} : DK H v d → DZ H v d
  | fz {a : Addr} {xs : List V} {ds : List PyData} : Fz H a xs → DKs H xs ds → DZ H (.ref a) (.tuple ds)
inductive DZs (H : Hp) : List V → List PyData → Prop
  | nil : DZs H [] []
  | cons {v : V} {vs : List V} {d : PyData} {ds : List PyData} : DZ H v d → DZs H vs ds → DZs H (v :: vs) (d :: ds)
section
variable {X : Cx} {pins : List (Addr × Obj)} {σ : L2.St} {H : Hp} {s : Shared}
theorem DZ.rk (I : L2.Inv X pins σ H s) {d : PyData} {v : V} {u : Value} (h : DZ H v d) (r : L2.RelV v u) (ok : d.showable = true) (hz : d.shown.length ≤ sizeLine) : Rk X.prog X.w s.heap u d := by
  cases h with
  | dk h => exact DK.rk I d v u h r ok hz
  | @fz a xs ds f r' =>
    obtain ⟨o, e, _⟩ := f
    cases r
    obtain ⟨_, _, its, rv, o, he, hc, n, hd⟩ := (show ObjOk X.prog X.w H s.heap _ (.frz _ (.tup _)) from I.hok _ _ e)
    have hz' : (tupleText (PyData.shownAll ds)).length ≤ sizeLine := by simpa only [PyData.shown] using hz
    exact Rk.tuple he hc hd (DKs.rks I ds _ its r' rv (by simpa [PyData.showable] using ok) fun t ht => Nat.le_trans (tupleText_mem_le ht) hz')
theorem DZs.rks (I : L2.Inv X pins σ H s) : ∀ (ds : List PyData) (vs : List V) (us : List Value), DZs H vs ds → L2.Vals vs us → PyData.showableAll ds = true → (∀ t ∈ PyData.shownAll ds, t.length ≤ sizeLine) → Rks X.prog X.w s.heap us ds
  | [], _, _, h, r, _, _ => by
    cases h; cases r
    exact ⟨⟨_, .nil⟩, [], (fun _ z => nomatch z), .nil⟩
  | d :: ds, _, _, h, r, ok, hz => by
    have ok' : d.showable = true ∧ PyData.showableAll ds = true := by simpa [PyData.showableAll] using ok
    cases h with
    | cons h1 h2 =>
      cases r with
      | cons r1 r2 =>
        exact Rks.cons (DZ.rk I h1 r1 ok'.1 (hz _ (by simp only [PyData.shownAll]; exact List.mem_cons_self ..))) (DZs.rks I ds _ _ h2 r2 ok'.2 fun t ht => hz t (by simp only [PyData.shownAll]; exact List.mem_cons_of_mem _ ht))
end
/-- repr of a list -/
def rReprZ : List V → Hp → VK → Prop := fun xs H Q => ∃ (a : Addr) (vs : List V) (ds : List PyData), xs = [.ref a] ∧ H a = some (.lst vs) ∧ DZs H vs ds ∧ Shows sizeLine 20 (.list ds) ∧ Q (.str (PyData.shown (.list ds))) H
theorem call_reprZ {X : Cx} (hg : X.A.guards = some []) (hu : X.A.units + 40 < cLine) : CallR X (.builtin "repr") rReprZ := by
  intro pins s σ H xs us Q I r h
  obtain ⟨a, vs, ds, rfl, e, r', S, q⟩ := h
  obtain ⟨u, rfl, rv⟩ := vals1 r
  cases (show u = Value.ref a from rv)
  obtain ⟨_, its, n, rvs, he⟩ := (show ObjOk X.prog X.w H s.heap _ (.lst _) from I.hok _ _ e)
  have hz' : (listText (PyData.shownAll ds)).length ≤ sizeLine := by simpa only [PyData.shown] using S.len
  have rks := DZs.rks I ds _ its r' rvs (by simpa [PyData.showable] using S.ok) fun t ht => Nat.le_trans (listText_mem_le ht) hz'
  obtain ⟨⟨as, ra⟩, bs, m, k⟩ := rks
  have rd : Reads s.heap (.ref a) (.list ds) (a :: as) := .list he rfl rfl ra
  have out : a ∉ bs := not_mem_of_deeper rd (by simp only [PyData.depth]; omega) m
  have dep : PyData.depthAll ds + 1 ≤ 20 := by simpa only [PyData.depth] using S.dep
  have fin : ∀ h' u tk, (∀ b o, s.heap.get? b = some o → h'.get? b = some o) → L2.EP X pins σ Q (.str (PyData.shown (.list ds)) u) { s with heap := h', toks := tk } := fun h' u tk kp => ⟨.str _, H, I.kept kp, ⟨_, rfl⟩, q⟩
  refine call_repr_slot (by omega) ⟨_, he, rfl⟩ PySem.F.slot_list_repr.toG ?_
  cases its with
  | nil =>
    cases ra
    refine call_list_repr_empty ⟨_, he, rfl⟩ he rfl ⟨_, _, rfl, ?_⟩
    have e0 : PyData.shown (.list []) = ("[]" : Str) := by simp only [PyData.shown, PyData.shownAll, listText_nil]
    rw [← e0]
    exact fin _ _ _ fun _ _ z => z
  | cons x l =>
    refine call_list_reprK he rfl rfl out (by simpa using k.length_eq) (fun i y e => k.item i y (by simpa using e)) (A := X.A.in1) hg (fun b _ => Clear.nil b) (by show X.A.units + 1 + _ < _; omega) (fun _ _ z => z) (fun h' u tk kp => ⟨_, _, rfl, ?_⟩) hz'
    have e0 : PyData.shown (.list ds) = listText (PyData.shownAll ds) := by simp only [PyData.shown]
    rw [← e0]
    exact fin h' u tk kp
end Mine

set_option Elab.async false
set_option linter.all false
set_option maxRecDepth 100000
set_option maxHeartbeats 4000000
/-! o.m(k1 = .., k2 = ..) of a method with two parameters, named the other way round. -/
namespace Mine
open PySem PySem.Spec PyProof.Rows L2
section
variable {X : Cx} {k : Nat} {f C : Addr} {fd : FuncData} {ps : List Str} {sp : L2.Sp} {m k1 k2 : Str} {pos apos : Pos} {o : Expr} {kws : List Keyword} {ta : TE} {tk : TA}
def tMethK2 (C : Addr) (m : Str) (sp : L2.Sp) (ta : TE) (tk : TA) : TE := fun σ H Q => ta σ H fun x H1 => ∃ a dx fs, x = .ref a ∧ H1 a = some (.ins C dx fs) ∧ fs.lookup m = none ∧ tk σ H1 fun zs H2 => ∃ u v, zs = [u, v] ∧ sp [x, v, u] H2 Q E0
theorem pe_methK2 {pl : Sem Bool} (he : PE X o ta) (c : Cls X.K C) (hm : Meth X.K C m f) (F : FnOk X.prog X.w X.K X.mg X.base CX0 k f fd ps sp) (hr : Room k X.A) (hps : ps.length = 3)
    (hb : ∀ (s : Shared) (a u v : Value), BindsTo s fd ⟨[a], [(k1, u), (k2, v)]⟩ (ps.zip [a, v, u])) (hkw : PK X kws tk)
    (hall : (backToKw pos (keywordEach kws X.env)).all (·.1.isSome) = true := by rfl) (hks : (backToKw pos (keywordEach kws X.env)).filterMap (·.1) = [k1, k2] := by rfl)
    (hpl : ((backTo pos (starEach [] X.env)).any (·.1) || (backToKw pos (keywordEach kws X.env)).any (·.1.isNone)) = false := by rfl)
    (ht : eval (.Call (.Attribute o m apos) [] kws pos) X.env = (do
      let ov ← eval o X.env
      standAt apos.atName
      let (f, first) ← holding [ov] (getMethod ov m pl)
      callWith pos f first (backTo pos (starEach [] X.env)) (backToKw pos (keywordEach kws X.env))) := by rfl) :
    PE X (.Call (.Attribute o m apos) [] kws pos) (tMethK2 C m sp ta tk) := by
  refine ⟨fun pins s σ H Q I h => ?_⟩
  refine PySem.W.methodCall_KW (pl := pl) (thn (he.run pins s σ H _ I h) fun u s1 ⟨x, H1, I1, rx, a, dx, fs, ex, ea, l, q⟩ => ?_) ht
  subst ex
  obtain rfl : u = Value.ref a := rx
  refine getmeth_ok I1 ea c hm l ?_
  refine PySem.W.callWith_KW0 (first := [.ref a]) (h₀ := X.base) I.ok.mod.kin hm.kp hall ?_ hpl
  refine thn (hkw.run pos pins s1 σ H1 _ I1 q) fun ws s2 ⟨zs, H2, I2, rz, uu, vv, ez, q2⟩ => ⟨I2.kIn, ?_⟩
  subst ez
  obtain ⟨w1, w2, ew, r1, r2⟩ := vals2 rz
  subst ew
  rw [hks]
  show wpAny _ _ (call (.ref f) [.ref a] [(k1, w1), (k2, w2)]) _ _ _
  refine wpAny_call (codeAny_mono (F.run X.A X.stack s2 H2 ⟨[.ref a], [(k1, w1), (k2, w2)]⟩ [.ref a, w2, w1] [.ref a, vv, uu] Q E0 hr I2.env0 (hb s2 (.ref a) w1 w2) (.cons rfl (.cons r2 (.cons r1 .nil))) q2) fun r s' hq => ?_)
  cases r with
  | error e => exact pass0 pins σ H2 s2 e s' I2 hq
  | ok fl =>
    cases fl with
    | ret u => exact I2.after hq
    | next => exact False.elim hq
    | brk => exact False.elim hq
    | cont => exact False.elim hq
end
end Mine

set_option Elab.async false
set_option linter.all false
set_option maxRecDepth 100000
set_option maxHeartbeats 4000000
/-! str(x) of an instance with a def for its text. -/
namespace Mine
open PySem PySem.Spec PyProof.Rows L2
section
variable {X : Cx} {n : Nat} {C f : Addr} {fd : FuncData} {ps : List Str} {sp : L2.Sp}
def rStrOwn (C : Addr) (sp : L2.Sp) : List V → Hp → VK → Prop := fun xs H Q => ∃ a dx fs, xs = [.ref a] ∧ H a = some (.ins C dx fs) ∧ sp [.ref a] H (fun v H' => ∃ y, v = .str y ∧ Q (.str y) H') E0
theorem call_strOwn (F : FnOk X.prog X.w X.K X.mg X.base CX0 n f fd ps sp) (hr : Room (n + 2) X.A) (hs : PySem.W.findIn X.K (.ref C) "__str__" = some (some (.ref f))) (hf : PySem.W.isFn X.K (.ref f) = true) (hb : Binds X.K fd ps []) : CallR X (.type "str") (rStrOwn C sp) := by
  intro pins s σ H xs us Q I r h
  obtain ⟨a, dx, fs, rfl, ha, hsp⟩ := h
  obtain ⟨u, rfl, rx⟩ := vals1 r
  cases rx
  obtain ⟨mA, J, _⟩ := ins_get I.hok ha
  obtain ⟨od, J, _⟩ := J.look
  have hr1 : Room (n + 1) X.A.in1 := Room.in1 hr
  have hr2 : Room n X.A.in1.in1 := hr1.in1
  refine PySem.W.kso_call hr2.units0 I.kIn J hs hf ?_
  have e0 : Env0 X.prog X.w X.K X.mg X.base X.A.in1.in1 X.stack s H := by
    have e := I.env0
    exact ⟨e.frames, e.mod, e.bs, e.bsz, e.funs, e.frf, e.hok, e.bare⟩
  have hl := F.len _ _ _ _ hsp
  have r2 : Vals [V.ref a] [Value.ref a] := .cons rfl .nil
  refine wpAny_call (codeAny_mono (F.run X.A.in1.in1 X.stack s H ⟨[.ref a], []⟩ [.ref a] [.ref a] _ E0 hr2 e0 (by
    have := hb s [.ref a] I.kIn (by simpa using hl)
    simpa using this) r2 hsp) fun r s' hq => ?_)
  cases r with
  | error e => exact pass0 pins σ H s e s' I hq
  | ok fl =>
    cases fl with
    | ret w =>
      obtain ⟨z, H', I', rz, y, ez, q⟩ := I.after hq
      subst ez
      obtain ⟨t, rfl⟩ := rz
      exact ⟨.str y, H', I', ⟨t, rfl⟩, q⟩
    | next => exact False.elim hq
    | brk => exact False.elim hq
    | cont => exact False.elim hq
end
end Mine

set_option Elab.async false
set_option linter.all false
set_option maxRecDepth 100000
set_option maxHeartbeats 4000000
/-! C.m(k = ..) of a classmethod with one parameter beside the class. -/
namespace Mine
open PySem PySem.Spec PyProof.Rows L2 ClX
section
variable {X : Cx} {k : Nat} {C p g : Addr} {mc : Value} {sp : L2.Sp} {fd : FuncData} {ps : List Str} {m k1 : Str} {pos apos : Pos} {o : Expr} {kws : List Keyword} {ta : TE} {tk : TA}
def tCMethK (C : Addr) (sp : L2.Sp) (ta : TE) (tk : TA) : TE := fun σ H Q => ta σ H fun x H1 => x = .ref C ∧ tk σ H1 fun zs H2 => ∃ v, zs = [v] ∧ sp [.ref C, v] H2 Q E0
theorem pe_cmethK {pl : Sem Bool} (he : PE X o ta) (r : CRead X.K C mc) (c : CMet X.K C mc m p g) (F : FnOk X.prog X.w X.K X.mg X.base CX0 k g fd ps sp) (hr : Room k X.A)
    (hb : ∀ (s : Shared) (a u : Value), BindsTo s fd ⟨[a], [(k1, u)]⟩ (ps.zip [a, u])) (hkw : PK X kws tk)
    (hall : (backToKw pos (keywordEach kws X.env)).all (·.1.isSome) = true := by rfl) (hks : (backToKw pos (keywordEach kws X.env)).filterMap (·.1) = [k1] := by rfl)
    (hpl : ((backTo pos (starEach [] X.env)).any (·.1) || (backToKw pos (keywordEach kws X.env)).any (·.1.isNone)) = false := by rfl)
    (ht : eval (.Call (.Attribute o m apos) [] kws pos) X.env = (do
      let ov ← eval o X.env
      standAt apos.atName
      let (f, first) ← holding [ov] (getMethod ov m pl)
      callWith pos f first (backTo pos (starEach [] X.env)) (backToKw pos (keywordEach kws X.env))) := by rfl) :
    PE X (.Call (.Attribute o m apos) [] kws pos) (tCMethK C sp ta tk) := by
  refine ⟨fun pins s σ H Q I h => ?_⟩
  refine PySem.W.methodCall_KW (pl := pl) (thn (he.run pins s σ H _ I h) fun u s1 ⟨x, H1, I1, rx, ex, q⟩ => ?_) ht
  subst ex
  obtain rfl : u = Value.ref C := rx
  refine getmethcm_ok I1 r c fun s2 I2 => ?_
  refine PySem.W.callWith_of hpl (PySem.W.keeps_M (K := X.K) (self := .ref C) c.fi) (evalArgs_kw2_nil hall ?_)
  refine thn (hkw.run pos _ s2 σ H1 _ I2 q) fun ws s3 ⟨zs, H2, I3, rz, v, ez, q2⟩ => ⟨⟨pin_at I3, I3.kIn⟩, ?_⟩
  subst ez
  obtain ⟨w1, ew, r1⟩ := vals1 rz
  subst ew
  rw [hks]
  show wpAny _ _ (call (.ref _) [] [(k1, w1)]) _ _ _
  have z : wpAny (model X.prog X.w) X.A (call (.ref s1.heap.objs.size) [] [(k1, w1)]) (EP X ((s1.heap.objs.size, PySem.W.methodObj (.ref g) (.ref C)) :: pins) σ Q) X.xe s3 := by
    refine wpAny_call (PySem.W.method_call (pin_at I3) (codeAny_mono (F.run X.A X.stack s3 H2 ⟨[.ref C], [(k1, w1)]⟩ [.ref C, w1] [.ref C, v] Q E0 hr I3.env0 (hb s3 (.ref C) w1) (.cons rfl (.cons r1 .nil)) q2) fun r s' hq => ?_))
    cases r with
    | error e => exact pass0 _ σ H2 s3 e s' I3 hq
    | ok fl =>
      cases fl with
      | ret u => exact I3.after hq
      | next => exact False.elim hq
      | brk => exact False.elim hq
      | cont => exact False.elim hq
  exact thn z fun _ _ y => unpinE y
end
end Mine

set_option Elab.async false
set_option linter.all false
set_option maxRecDepth 100000
set_option maxHeartbeats 4000000
/-! d.get(key, other) of a dict that the top has left. -/
namespace Mine
open PySem PySem.Spec PyProof.Rows L2
section
variable {X : Cx} {d : Addr} {es : Array DictEntry} {n : Nat} {o e f : Expr} {apos cpos : Pos} {td ty tx : TE}
def tKGet (K : PySem.W.Frag) (d : Addr) (td ty tx : TE) : TE := fun σ H Q => td σ H fun x H1 => x = .ref d ∧ ty σ H1 fun y H2 => tx σ H2 fun z H3 => ∃ (k : Str), y = .str k ∧
  ((PySem.W.nsIn K d k = some none ∧ Q z H3) ∨ ∃ (u0 : Value) (v0 : V), PySem.W.nsIn K d k = some (some u0) ∧ RelV v0 u0 ∧ Q v0 H3)
theorem pe_kget (D : KDict X.K X.w d es n) (ho : PE X o td) (he : PE X e ty) (hf : PE X f tx) (m : M2 X o "get" apos e f cpos) : PE X (.Call (.Attribute o "get" apos) [e, f] [] cpos) (tKGet X.K d td ty tx) := by
  refine ⟨fun pins s σ H Q I h => ?_⟩
  refine wpAny_Call_method m.base m.few m.line PySem.F.plainAttrs_dict PySem.F.slot_dict_get PySem.F.type_dict_get (thn (ho.run pins s σ H _ I h) fun u s1 ⟨x, H1, I1, rx, ex, q1⟩ => ?_)
  subst ex
  obtain rfl : u = Value.ref d := rx
  refine ⟨kd_type D I1, fun b q => ?_, ?_⟩
  · cases q
    exact ⟨_, I1.kIn _ _ D.at_, rfl⟩
  rw [m.trees]
  refine Calls.callWith_builtin rfl (Calls.evalArgs_plain (Calls.spliced_cons (thn (he.run pins s1 σ H1 _ I1 q1) fun iv s2 ⟨y, H2, I2, ry, q2⟩ =>
    Calls.spliced_cons (thn (hf.run pins s2 σ H2 _ I2 q2) fun fv s3 ⟨z, H3, I3, rz, k, ek, q3⟩ => Calls.spliced_nil ?_))))
  subst ek
  obtain ⟨t, rfl⟩ := ry
  have mp := PySem.W.mapOf_K (prog := X.prog) (w := X.w) I3.kIn D.at_ D.lit
  refine call_meetsIn PySem.F.slot_dict_get mp.typeIs PySem.F.entry_dict_get (PySem.F.args_dict_get_3 _ _ _) (meets_dict_get_default (strKind X.prog X.w) d (PySem.strKind_is X.prog X.w k t) D.low fv) ⟨_, mp, ?_⟩
  rcases q3 with ⟨e0, q⟩ | ⟨u0, v0, e0, r0, q⟩
  · rw [PySem.W.find_K D.at_ e0]
    exact ⟨z, H3, I3.tok _, rz, q⟩
  · rw [PySem.W.find_K D.at_ e0]
    exact ⟨v0, H3, I3.tok _, r0, q⟩
end
end Mine

set_option Elab.async false
set_option linter.all false
set_option maxRecDepth 100000
set_option maxHeartbeats 4000000
/-! A comprehension of two clauses over tuples. -/
namespace Mine
open PySem PySem.Spec PyProof.Rows L2
theorem in_tup {K : PySem.W.Frag} {a D : Addr} {xs : List V} {g1 : TG} {tt1 : TT} {te : TE} {vs1 : List Nat} {σ2 : L2.St} {H4 : Hp} {N : Hp → Prop} (Pw : Nat → Hp → Prop) (h0 : Pw 0 H4) (hl : ∀ i H, i ≤ xs.length → Pw i H → SqT K H a xs)
    (hs : ∀ j x H, xs[j]? = some x → Pw j H → g1 x (wipe σ2 vs1) H fun σ3 H5 => wipe σ3 vs1 = wipe σ2 vs1 ∧ tt1 σ3 H5 fun b H6 =>
      if b = true then te σ3 H6 fun y H7 => ∃ acc, H7 D = some (.lst acc) ∧ acc.length < sizeLine ∧ Pw (j + 1) (upd H7 D (.lst (acc ++ [y]))) else Pw (j + 1) H6) (hd : ∀ H, Pw xs.length H → N H) :
    ∃ W1 : Nat → Nat → Hp → Prop, (∃ m, W1 0 m H4) ∧ ∀ j k H, W1 j k H → ((Itt K a).stop j H ∧ N H) ∨ ((Itt K a).go j H ∧ ∃ Nx1 : Hp → Prop, (∀ H', Nx1 H' → ∃ k', k' < k ∧ W1 (j + 1) k' H') ∧
      ∀ x H', (Itt K a).yld j H x H' → g1 x (wipe σ2 vs1) H' fun σ3 H5 => wipe σ3 vs1 = wipe σ2 vs1 ∧ tt1 σ3 H5 fun b H6 => if b = true then te σ3 H6 fun y H7 => ∃ acc, H7 D = some (.lst acc) ∧ acc.length < sizeLine ∧ Nx1 (upd H7 D (.lst (acc ++ [y]))) else Nx1 H6) := by
  refine ⟨fun i m H => m = xs.length - i ∧ i ≤ xs.length ∧ Pw i H, ⟨xs.length, by simp, Nat.zero_le _, h0⟩, ?_⟩
  rintro i m H ⟨rfl, hi, p⟩
  have q := hl i H hi p
  by_cases hlt : i < xs.length
  · refine .inr ⟨⟨xs, xs[i], q, by simp [hlt]⟩, Pw (i + 1), fun H' p' => ⟨xs.length - (i + 1), by omega, rfl, hlt, p'⟩, fun x H' y => ?_⟩
    obtain ⟨e, y⟩ := y
    subst e
    exact hs i x _ (y xs q) p
  · have e : i = xs.length := by omega
    subst e
    exact .inl ⟨⟨xs, q, Nat.le_refl _⟩, hd H p⟩
/-- the first clause over a tuple: T i says the second clause's own loop, whose end is Pv (i + 1) -/
theorem out_tup {K : PySem.W.Frag} {a D : Addr} {xs : List V} {H1 : Hp} {Qd : Hp → Prop} {T : V → Hp → (Hp → Prop) → Prop} (Pv : Nat → Hp → Prop) (h0 : Pv 0 (upd H1 D (.lst []))) (hl : ∀ i H, i ≤ xs.length → Pv i H → SqT K H a xs)
    (hs : ∀ i x H, xs[i]? = some x → Pv i H → T x H (Pv (i + 1))) (hd : ∀ H, Pv xs.length H → Qd H) :
    ∃ W : Nat → Nat → Hp → Prop, (∃ m, W 0 m (upd H1 D (.lst []))) ∧ ∀ i m H, W i m H → ((Itt K a).stop i H ∧ Qd H) ∨ ((Itt K a).go i H ∧ ∃ Nx : Hp → Prop, (∀ H', Nx H' → ∃ m', m' < m ∧ W (i + 1) m' H') ∧ ∀ x H', (Itt K a).yld i H x H' → T x H' Nx) := by
  refine ⟨fun i m H => m = xs.length - i ∧ i ≤ xs.length ∧ Pv i H, ⟨xs.length, by simp, Nat.zero_le _, h0⟩, ?_⟩
  rintro i m H ⟨rfl, hi, p⟩
  have q := hl i H hi p
  by_cases hlt : i < xs.length
  · refine .inr ⟨⟨xs, xs[i], q, by simp [hlt]⟩, Pv (i + 1), fun H' p' => ⟨xs.length - (i + 1), by omega, rfl, hlt, p'⟩, fun x H' y => ?_⟩
    obtain ⟨e, y⟩ := y
    subst e
    exact hs i x _ (y xs q) p
  · have e : i = xs.length := by omega
    subst e
    exact .inl ⟨⟨xs, q, Nat.le_refl _⟩, hd H p⟩
end Mine

set_option Elab.async false
set_option linter.all false
set_option maxRecDepth 100000
set_option maxHeartbeats 4000000
/-! for i, x in enumerate(xs, start=c): a list numbered from c on. -/
namespace Mine
open PySem PySem.Spec PyProof.Rows L2
theorem callWith_typeK {M : Model} {A : Around} {E : Value → Shared → Prop} {s : Shared} {pos : Pos} {T : String} {first : List Value} {args : List (Bool × Sem Value)} {keywords : List (Option Str × Sem Value)} {Q : Value → Shared → Prop}
    (hplain : args.any (·.1) = false) (hkw : keywords.any (·.1.isNone) = false)
    (h : wpAny M A (evalArgs (.type T) true args keywords) (fun a s₁ => wpAny M A (call (.type T) (first ++ a.pos) a.kw) Q E s₁) E s) :
    wpAny M A (callWith pos (.type T) first args keywords) Q E s := by
  unfold callWith
  refine wpAny_bind (wpAny_holding (wpAny_mono h (fun a s₁ h₁ => wpAny_bind (wpAny_standAt ?_)) fun _ _ x => x))
  simp only [hplain, hkw, Bool.or_false]
  refine wpAny_bind (wpAny_pure ?_)
  exact wpAny_bind (wpAny_mono h₁ (fun r s₂ hr => wpAny_bind (wpAny_holding (wpAny_point (wpAny_pure hr)))) fun _ _ x => x)
/-- an enumerate object whose list is at its end, whatever its number -/
theorem enum_over {P : Program} {w : World} {A : Around} {E : Value → Shared → Prop} {s : Shared} {e it l : Addr} {i : Nat} {c : Int} {items : Array Value} {old : Value} {Q : Option Value → Shared → Prop} (hd : A.handled = none)
    (ob : IsEnum s.heap e it c old) (at_ : s.heap.IsListIter it l i) (ls : s.heap.IsList l items) (no : items[i]? = none) (go : ∀ h', Heap.ExtBut it s.heap h' → Q none { s with heap := h' }) :
    wpAny (model P w) A (pyNext (.ref e)) Q E s := by
  unfold pyNext
  have ty : s.TypeIs (.ref e) "enumerate" := ⟨_, ob, rfl⟩
  refine wpAny_bind (wpAny_attempt (wpAny_callSpecial?_slot (name := Str.ofString "__next__") ty F.slot_enumerate_next (wpAny_call_entry F.slot_enumerate_next ty F.entry_enumerate_next ?q1 (F.args_enumerate_next_1 _))))
  case q1 =>
    show wpAny _ _ (field (.ref e) 2 >>= _) _ _ _
    refine wpAny_bind (wpAny_field ob rfl (x := .ref it) rfl (wpAny_bind (wpAny_nextOf_list_end hd at_ ls no fun h' z eb hz => ?_)))
    obtain ⟨oz, gz, cz⟩ := hz
    exact wpAny_bind (wpAny_isInstance (T := "StopIteration") (b := true) ⟨oz, gz, cz⟩ isSubtype_stop (wpAny_pure (go _ eb)))
/-- item i of the list at a, numbered c + i, in a new pair -/
def IteS (K : PySem.W.Frag) (c : Int) (a : Addr) : It where
  go := fun i H => ∃ xs x, SqL K H a xs ∧ xs[i]? = some x
  yld := fun i H v H' => ∃ T x, v = .ref T ∧ H T = none ∧ H' = upd H T (.tup [.int (c + (i : Nat)), x]) ∧ ∀ xs, SqL K H a xs → xs[i]? = some x
  stop := fun i H => ∃ xs, SqL K H a xs ∧ xs.length ≤ i
/-- where such a walk stands: the number that comes next, the place in the list, and that the three objects are three -/
def EnAt (c : Int) (a e it : Addr) (i : Nat) (h : Heap) : Prop := (∃ old, IsEnum h e it (c + ((i : Nat) : Int)) old) ∧ h.IsListIter it a i ∧ e ≠ it ∧ a ≠ it ∧ a ≠ e
theorem EnAt.to {c : Int} {a e it : Addr} {i : Nat} {h h' : Heap} (x : EnAt c a e it i h) (ke : ∀ o, h.get? e = some o → h'.get? e = some o) (ki : ∀ o, h.get? it = some o → h'.get? it = some o) : EnAt c a e it i h' := by
  obtain ⟨⟨old, he⟩, hi, n⟩ := x
  exact ⟨⟨old, ke _ he⟩, hi.at ki, n⟩
theorem two_of {b e it : Addr} (h : b ∈ [e, it]) : b = e ∨ b = it := by simpa using h
theorem off_two {b e it : Addr} (h : b ∉ [e, it]) : b ≠ e ∧ b ≠ it := ⟨fun z => h (by simp [z]), fun z => h (by simp [z])⟩
theorem turn_enumS {P : Program} {w : World} {K : PySem.W.Frag} {elts : List Expr} {kk : Nat} {tpos : Pos} (c : Int) (a e it : Addr) : Turn P w K (.Tuple elts kk tpos) (IteS K c a) [e, it] e (EnAt c a e it) := by
  refine { mem := List.mem_cons_self .., obj := ?ob, keep := fun i h h' x k => x.to (k e (by simp)) (k it (by simp)), item := ?nx, done := ?en, self := fun A i s Q E x h => wpAny_pyIter_enum x.1.choose_spec h }
  case ob =>
    intro i h x b hb
    obtain ⟨⟨old, he⟩, ⟨o, ho, _, hd⟩, _⟩ := x
    rcases two_of hb with rfl | rfl
    · exact ⟨_, he, fun _ q => nomatch q⟩
    · refine ⟨o, ho, fun v q => ?_⟩
      rw [hd] at q
      cases q
  case nx =>
    rintro X rfl rfl rfl hc i pins s σ H E I hf ⟨⟨old, he⟩, hit, hne, n1, n2⟩ ⟨xs, x, hq, hx⟩
    obtain ⟨its, rv, pl, _⟩ := I.list hq
    obtain ⟨u, hu, ru⟩ := rv.get hx
    have le : e < s.heap.objs.size := Heap.lt_size he
    have li : it < s.heap.objs.size := Heap.lt_size hit.choose_spec.1
    have in_ : i < its.toArray.size := by simpa using (List.getElem?_eq_some_iff.mp hu).1
    have D := Draws.list (prog := X.prog) (w := X.w) (A := X.A.in1) (I.ok.hd hc) it a n1 its.toArray
    refine wpAny_pyNext_enum_itemC D he ⟨hit, pl.isList⟩ in_ hne (by simp [hne, Ne.symm n2]) fun z h1 tk hz out st1 tup _ kp => ?_
    obtain rfl : z = u := by
      have e2 : its.toArray[i]? = some u := by simpa using hu
      exact Option.some.inj ((show its.toArray[i]? = some z from hz).symm.trans e2)
    refine ⟨_, rfl, wpAny_letOwnedTupleGo_enum (s := { s with heap := h1, toks := tk + 1 }) out fun h2 he2 sb => ?_⟩
    have ob : ObjOk X.prog X.w (upd H s.heap.objs.size (.tup [.int (c + (i : Nat)), x])) h2 s.heap.objs.size (.tup [.int (c + (i : Nat)), x]) := by
      refine ⟨(by show 2 ≤ sizeLine; decide), [.int (c + (i : Nat)) tk, z], .cons ⟨_, rfl⟩ (.cons ru .nil), _, (sb.2 _ (Nat.ne_of_gt le)).trans tup, rfl, _, rfl⟩
    refine ⟨.ref s.heap.objs.size, _, I.turnedNew (t' := tk + 1) (ch := [e, it]) (fun b o hb g => (sb.2 b (off_two hb).1).trans (kp b o (off_two hb).1 (off_two hb).2 g)) hf (Nat.le_refl _) ob, rfl,
      ⟨_, x, rfl, I.hok.fresh (Nat.le_refl _), rfl, fun ys hy => I.list_inj hq hy ▸ hx⟩, ⟨⟨z, ?_⟩, st1.1.at fun o g => (sb.2 it (Ne.symm hne)).trans g, hne, n1, n2⟩, fun b hb => ?_⟩
    · rw [show c + ((i + 1 : Nat) : Int) = c + (i : Int) + 1 by omega]
      exact he2
    · have lb : b < s.heap.objs.size := (two_of hb).elim (fun z => z ▸ le) fun z => z ▸ li
      exact (upd_ne (Nat.ne_of_lt lb)).trans (hf b hb).1
  case en =>
    rintro X rfl rfl rfl hc i pins s σ H E I hf ⟨⟨old, he⟩, hit, _⟩ ⟨xs, hq, hx⟩
    obtain ⟨its, rv, pl, _⟩ := I.list hq
    have none_ : its.toArray[i]? = none := by
      have := rv.length
      simp
      omega
    obtain ⟨f0, f1, _, f3, f4, f5⟩ := hf it (by simp)
    exact enum_over (I.ok.hd hc) he hit pl.isList none_ fun h' eb => ⟨rfl, I.turned (t' := s.toks) (fun b o hb g => eb b o hb g) f0 f1 f3 f4 f5⟩
section
variable {X : Cx} {elts : List Expr} {kk : Nat} {p pos tpos kpos : Pos} {e : Expr} {ta : TA} {kp : Pos} {jj : Nat} {c : Int}
def iEnumS (K : PySem.W.Frag) (c : Int) (ta : TA) (tk : TA) : TI := fun σ H R => ta σ H fun vs H1 => ∃ a xs, vs = [.ref a] ∧ SqL K H1 a xs ∧ tk σ H1 fun zs H2 => zs = [.int c] ∧ SqL K H2 a xs ∧ -(2 ^ 63) ≤ c ∧ c < 2 ^ 63 ∧ R (IteS K c a) H2
theorem pi_enumS {kws : List Keyword} {tk : TA} (hg : Gl X "enumerate") (hm : X.mg "enumerate" = none) (ha : PA X [e] ta) (hk : PK X kws tk) (hs : starEach [e] X.env = [(false, eval e X.env)] := by rfl)
    (hall : (backToKw pos (keywordEach kws X.env)).all (·.1.isSome) = true := by rfl) (hks : (backToKw pos (keywordEach kws X.env)).filterMap (·.1) = [PySem.Str.ofString "start"] := by rfl) (hno : (backToKw pos (keywordEach kws X.env)).any (·.1.isNone) = false := by rfl) :
    PI X (.Tuple elts kk tpos) (.Call (.Name "enumerate" p) [e] kws pos) (iEnumS X.K c ta tk) := by
  refine ⟨fun pins s σ H R I h => ?_⟩
  refine wpAny_Call_Name_kw (ld_blt I hg hm boot_enumerate (callWith_typeK (by rw [hs]; rfl) hno (evalArgs_kw2 hall (thn (ha.run pos pins s σ H _ I h) fun us s1 ⟨vs, H1, I1, r1, q1⟩ => ?_) hs)))
  obtain ⟨a, xs, ex, hq, q⟩ := q1
  subst ex
  obtain ⟨u, rfl, r⟩ := vals1 r1
  cases r
  refine thn (hk.run pos pins s1 σ H1 _ I1 q) fun ws s2 ⟨zs, H2, I2, rz, ez, hq2, c0, c1, q2⟩ => ?_
  subst ez
  obtain ⟨w1, rfl, rw1⟩ := vals1 rz
  obtain ⟨tt, rfl⟩ := rw1
  rw [hks]
  obtain ⟨its, rv, pl, hz⟩ := I2.list hq2
  show wpAny _ _ (call (.type "enumerate") [.ref a] [(PySem.Str.ofString "start", .int c tt)]) _ _ _
  refine enum_begins_start (begins_list a its.toArray) pl.isList c0 c1 fun h' he hit hsz hkp => wpAny_pyIter_enum he ?_
  have I3 : L2.Inv X pins σ H2 { s2 with heap := h' } := I2.kept (t' := s2.toks) hkp
  have al : a < s2.heap.objs.size := by
    obtain ⟨o, ho, _⟩ := pl.isList
    exact Heap.lt_size ho
  refine ⟨s2.heap.objs.size + 1, [s2.heap.objs.size + 1, s2.heap.objs.size], _, _, H2, rfl, I3, turn_enumS c a (s2.heap.objs.size + 1) s2.heap.objs.size, ⟨⟨.none, ?_⟩, ⟨_, hit, rfl, rfl⟩, Nat.succ_ne_self _, Nat.ne_of_lt al, Nat.ne_of_lt (Nat.lt_succ_of_lt al)⟩, fun b hb => ?_, q2⟩
  · have e1 : c + ((0 : Nat) : Int) = c := by omega
    rw [e1]
    exact he
  · have hle : s2.heap.objs.size ≤ b := by
      have e' : b = s2.heap.objs.size + 1 ∨ b = s2.heap.objs.size := by simpa using hb
      rcases e' with z | z
      · rw [z]; exact Nat.le_add_right _ _
      · rw [z]; exact Nat.le_refl _
    exact I2.fpOk hle (I2.hok.fresh hle)
end
end Mine

set_option Elab.async false
set_option linter.all false
set_option maxRecDepth 100000
set_option maxHeartbeats 4000000
/-! cls(..): a call of a class that stands in a slot (the first parameter of a classmethod). -/
namespace Mine
open PySem PySem.Spec PyProof.Rows L2 ClX
section
variable {X : Cx} {CX : CXT} {k : Nat} {f C : Addr} {fd : FuncData} {ps : List Str} {ds : List Value} {dvs : List V} {sp : L2.Sp} {E : XK} {x : Str} {p pos : Pos} {e : Expr} {es : List Expr} {t : TA} {tn : TE}
def tMakeL (C : Addr) (sp : L2.Sp) (dvs : List V) (E : XK) (tn : TE) (t : TA) : TE := fun σ H Q => tn σ H fun y H1 => y = .ref C ∧ tMake C sp dvs E t σ H1 Q
theorem pe_makeL (M : Mk X.K C f) (F : FnOk X.prog X.w X.K X.mg X.base CX k f fd ps sp) (hr : Room (k + 1) X.A) (hn : PE X (.Name x p) tn) (hb : Binds X.K fd ps ds) (hd : Vals dvs ds) (hx : Passes CX X E)
    (ha : PA X (e :: es) t) (he : starEach (e :: es) X.env = (false, eval e X.env) :: starEach es X.env := by rfl) (hpl : (backTo pos (starEach es X.env)).any (·.1) = false := by rfl) :
    PE X (.Call (.Name x p) (e :: es) [] pos) (tMakeL C sp dvs E tn t) := by
  refine ⟨fun pins s σ H Q I h => ?_⟩
  refine PySem.wpAny_Call_Name_kw (thn (hn.run pins s σ H _ I h) fun u s1 ⟨y, H1, I1, ry, ey, q⟩ => ?_)
  subst ey
  obtain rfl : u = Value.ref C := ry
  refine PySem.W.callWith_K (h₀ := X.base) I1.ok.mod.kin M.kp (thn (ha.run pos pins s1 σ H1 _ I1 q) fun us s2 ⟨vs, H2, I2, r, q2⟩ => ⟨I2.kIn, ?_⟩) he hpl
  exact run_make M F hr hb hd hx I2 r q2
end
end Mine

set_option Elab.async false
set_option linter.all false
set_option maxRecDepth 100000
set_option maxHeartbeats 4000000
/-! The text of a list or a tuple, whose items stand anywhere: tracked, locked, or left by the top. -/
namespace Mine
open PySem PySem.Spec PyProof.Rows L2
section
variable {X : Cx} {pins : List (Addr × Obj)} {σ : L2.St} {H : Hp} {s : Shared}
mutual
theorem dp_rk (I : L2.Inv X pins σ H s) : ∀ (d : PyData) (v : V) (u : Value), Dp X.K H v d → L2.RelV v u → d.showable = true → d.shown.length ≤ sizeLine → Rk X.prog X.w s.heap u d
  | .none, _, _, h, r, _, _ => by
    cases h; cases r
    exact Rk.leaf .none (by simp only [PyData.shown]; exact ReprIs.none)
  | .bool b, _, _, h, r, _, _ => by
    cases h; cases r
    exact Rk.leaf (.bool b) (by simp only [PyData.shown]; exact ReprIs.bool b)
  | .int i, _, _, h, r, ok, _ => by
    cases h
    obtain ⟨t, rfl⟩ := r
    exact Rk.leaf (.int i t) (by simp only [PyData.shown]; exact ReprIs.int t (by simpa [PyData.showable] using ok))
  | .str x, _, _, h, r, _, hz => by
    cases h
    obtain ⟨t, rfl⟩ := r
    exact Rk.leaf (.str x t) (by simp only [PyData.shown]; exact ReprIs.str x t (by simpa only [PyData.shown] using hz))
  | .list ds, _, _, h, r, ok, hz => by
    cases h with
    | lst e r' =>
      cases r
      obtain ⟨its, rv, ⟨o, n, he, hc, _, hd⟩, _⟩ := I.list e
      have hz' : (listText (PyData.shownAll ds)).length ≤ sizeLine := by simpa only [PyData.shown] using hz
      exact Rk.list he hc hd (dps_rks I ds _ its r' rv (by simpa [PyData.showable] using ok) fun t ht => Nat.le_trans (listText_mem_le ht) hz')
  | .tuple ds, _, _, h, r, ok, hz => by
    cases h with
    | tup e r' =>
      cases r
      obtain ⟨its, rv, ⟨o, he, hc, n, hd⟩, _⟩ := I.tuple e
      have hz' : (tupleText (PyData.shownAll ds)).length ≤ sizeLine := by simpa only [PyData.shown] using hz
      exact Rk.tuple he hc hd (dps_rks I ds _ its r' rv (by simpa [PyData.showable] using ok) fun t ht => Nat.le_trans (tupleText_mem_le ht) hz')
  | .dict _, _, _, h, _, _, _ => by cases h
theorem dps_rks (I : L2.Inv X pins σ H s) : ∀ (ds : List PyData) (vs : List V) (us : List Value), DpAll X.K H vs ds → L2.Vals vs us → PyData.showableAll ds = true → (∀ t ∈ PyData.shownAll ds, t.length ≤ sizeLine) → Rks X.prog X.w s.heap us ds
  | [], _, _, h, r, _, _ => by
    cases h; cases r
    exact ⟨⟨_, .nil⟩, [], (fun _ z => nomatch z), .nil⟩
  | d :: ds, _, _, h, r, ok, hz => by
    have ok' : d.showable = true ∧ PyData.showableAll ds = true := by simpa [PyData.showableAll] using ok
    cases h with
    | cons h1 h2 =>
      cases r with
      | cons r1 r2 =>
        exact Rks.cons (dp_rk I d _ _ h1 r1 ok'.1 (hz _ (by simp only [PyData.shownAll]; exact List.mem_cons_self ..))) (dps_rks I ds _ _ h2 r2 ok'.2 fun t ht => hz t (by simp only [PyData.shownAll]; exact List.mem_cons_of_mem _ ht))
end
end
/-- repr of a list or a tuple -/
def rReprP (K : PySem.W.Frag) : List V → Hp → VK → Prop := fun xs H Q => ∃ (a : Addr) (vs : List V) (ds : List PyData), xs = [.ref a] ∧ DpAll K H vs ds ∧
  ((SqL K H a vs ∧ Shows sizeLine 20 (.list ds) ∧ Q (.str (PyData.shown (.list ds))) H) ∨ (SqT K H a vs ∧ Shows sizeLine 20 (.tuple ds) ∧ Q (.str (PyData.shown (.tuple ds))) H))
theorem call_reprP {X : Cx} (hg : X.A.guards = some []) (hu : X.A.units + 40 < cLine) : CallR X (.builtin "repr") (rReprP X.K) := by
  intro pins s σ H xs us Q I r h
  obtain ⟨a, vs, ds, rfl, r', h⟩ := h
  obtain ⟨u, rfl, rv⟩ := vals1 r
  cases (show u = Value.ref a from rv)
  rcases h with ⟨e, S, q⟩ | ⟨e, S, q⟩
  · obtain ⟨its, rvs, ⟨o, n, he, hc, hdn, hd⟩, _⟩ := I.list e
    have hz' : (listText (PyData.shownAll ds)).length ≤ sizeLine := by simpa only [PyData.shown] using S.len
    have rks := dps_rks I ds _ its r' rvs (by simpa [PyData.showable] using S.ok) fun t ht => Nat.le_trans (listText_mem_le ht) hz'
    obtain ⟨⟨as, ra⟩, bs, m, k⟩ := rks
    have rd : Reads s.heap (.ref a) (.list ds) (a :: as) := .list he hc hd ra
    have out : a ∉ bs := not_mem_of_deeper rd (by simp only [PyData.depth]; omega) m
    have dep : PyData.depthAll ds + 1 ≤ 20 := by simpa only [PyData.depth] using S.dep
    have fin : ∀ h' u tk, (∀ b o, s.heap.get? b = some o → h'.get? b = some o) → L2.EP X pins σ Q (.str (PyData.shown (.list ds)) u) { s with heap := h', toks := tk } := fun h' u tk kp => ⟨.str _, H, I.kept kp, ⟨_, rfl⟩, q⟩
    refine call_repr_slot (by omega) ⟨_, he, hc⟩ PySem.F.slot_list_repr.toG ?_
    cases its with
    | nil =>
      cases ra
      refine call_list_repr_empty ⟨_, he, hc⟩ he hd ⟨_, _, rfl, ?_⟩
      have e0 : PyData.shown (.list []) = ("[]" : Str) := by simp only [PyData.shown, PyData.shownAll, listText_nil]
      rw [← e0]
      exact fin _ _ _ fun _ _ z => z
    | cons x l =>
      refine call_list_reprK he hc hd out (by simpa using k.length_eq) (fun i y e => k.item i y (by simpa using e)) (A := X.A.in1) hg (fun b _ => Clear.nil b) (by show X.A.units + 1 + _ < _; omega) (fun _ _ z => z) (fun h' u tk kp => ⟨_, _, rfl, ?_⟩) hz'
      have e0 : PyData.shown (.list ds) = listText (PyData.shownAll ds) := by simp only [PyData.shown]
      rw [← e0]
      exact fin h' u tk kp
  · obtain ⟨its, rvs, ⟨o, he, hc, n, hd⟩, _⟩ := I.tuple e
    have hz' : (tupleText (PyData.shownAll ds)).length ≤ sizeLine := by simpa only [PyData.shown] using S.len
    have rks := dps_rks I ds _ its r' rvs (by simpa [PyData.showable] using S.ok) fun t ht => Nat.le_trans (tupleText_mem_le ht) hz'
    obtain ⟨⟨as, ra⟩, bs, m, k⟩ := rks
    have rd : Reads s.heap (.ref a) (.tuple ds) as := .tuple he hc hd ra
    have out : a ∉ bs := not_mem_of_deeper rd (by simp only [PyData.depth]; omega) m
    have dep : PyData.depthAll ds + 1 ≤ 20 := by simpa only [PyData.depth] using S.dep
    have fin : ∀ h' u tk, (∀ b o, s.heap.get? b = some o → h'.get? b = some o) → L2.EP X pins σ Q (.str (PyData.shown (.tuple ds)) u) { s with heap := h', toks := tk } := fun h' u tk kp => ⟨.str _, H, I.kept kp, ⟨_, rfl⟩, q⟩
    refine call_repr_slot (by omega) ⟨_, he, hc⟩ PySem.F.slot_tuple_repr ?_
    refine call_tuple_reprK he hc hd out (by simpa using k) (A := X.A.in1) hg (fun b _ => Clear.nil b) (by show X.A.units + 1 + _ < _; omega) (fun _ _ z => z) (fun h' u tk kp => ⟨_, _, rfl, ?_⟩) hz'
    have e0 : PyData.shown (.tuple ds) = tupleText (PyData.shownAll ds) := by simp only [PyData.shown]
    rw [← e0]
    exact fin h' u tk kp
/-! tracked data is data that stands anywhere -/
mutual
theorem dp_of {K : PySem.W.Frag} {H : Hp} : ∀ (d : PyData) (v : V), d.canLay0 = true → DK H v d → Dp K H v d
  | .none, _, _, h => by cases h; exact .non
  | .bool b, _, _, h => by cases h; exact .bl b
  | .int i, _, _, h => by cases h; exact .int i
  | .str x, _, _, h => by cases h; exact .str x
  | .list ds, _, l, h => by
    cases h with
    | lst e r => exact .lst (SqL.of e) (dps_of ds _ (by simpa only [PyData.canLay0] using l) r)
  | .tuple ds, _, l, h => by
    cases h with
    | tup e r => exact .tup (SqT.of e) (dps_of ds _ (by simpa only [PyData.canLay0] using l) r)
  | .dict _, _, l, _ => by simp [PyData.canLay0] at l
theorem dps_of {K : PySem.W.Frag} {H : Hp} : ∀ (ds : List PyData) (vs : List V), PyData.canLayAll0 ds = true → DKs H vs ds → DpAll K H vs ds
  | [], _, _, h => by cases h; exact .nil
  | d :: ds, _, l, h => by
    have l' : d.canLay0 = true ∧ PyData.canLayAll0 ds = true := by simpa [PyData.canLayAll0] using l
    cases h with
    | cons h1 h2 => exact .cons (dp_of d _ l'.1 h1) (dps_of ds _ l'.2 h2)
end
end Mine

set_option Elab.async false
set_option linter.all false
set_option maxRecDepth 100000
set_option maxHeartbeats 4000000
/-! Unlike data have unlike texts (repr). -/
namespace Mine
open PySem PySem.Spec PyProof.Rows L2 TL
/-- data whose text tells it: numbers from 0 on, strings of ASCII's printable signs but ' and the backslash, no dicts -/
def signOk (c : Nat) : Bool := decide (32 ≤ c ∧ c < 127 ∧ c ≠ 39 ∧ c ≠ 92)
mutual
def plainD : PyData → Bool
  | .none | .bool _ => true
  | .int i => decide (0 ≤ i)
  | .str x => x.cps.toList.all signOk
  | .list ds | .tuple ds => plainDs ds
  | .dict _ => false
def plainDs : List PyData → Bool
  | [] => true
  | d :: ds => plainD d && plainDs ds
end
theorem sign_char : ∀ c < 127, signOk c = true → Builtin.Str.reprChar 39 c = [c] := by decide +kernel
theorem repr_fold {x : Str} (q : Nat) : ∀ (l : List Nat) (acc : Array Nat), (∀ c ∈ l, Builtin.Str.reprChar q c = [c]) → (l.foldl (fun out c => out ++ (Builtin.Str.reprChar q c).toArray) acc).toList = acc.toList ++ l
  | [], acc, _ => by simp
  | c :: l, acc, h => by
    rw [List.foldl_cons, h c (List.mem_cons_self ..), repr_fold (x := x) q l _ fun d hd => h d (List.mem_cons_of_mem _ hd)]
    simp
theorem tl_repr {x : Str} (h : x.cps.toList.all signOk = true) : tl (reprText x) = 39 :: (tl x ++ [39]) := by
  have hs : ∀ c ∈ tl x, signOk c = true := List.all_eq_true.mp h
  have no : x.cps.contains 39 = false := by
    cases e : x.cps.contains 39 with
    | false => rfl
    | true =>
      have m : (39 : Nat) ∈ tl x := by simpa using e
      exact absurd (hs 39 m) (by decide)
  have q : reprQuote x = 39 := by
    unfold reprQuote
    rw [no]
    rfl
  have ch : ∀ c ∈ tl x, Builtin.Str.reprChar 39 c = [c] := fun c hc => by
    have := hs c hc
    have l : c < 127 := by
      unfold signOk at this
      simp only [decide_eq_true_eq] at this
      exact this.2.1
    exact sign_char c l this
  unfold reprText
  rw [q]
  show (Array.push _ 39).toList = _
  rw [Array.toList_push, ← Array.foldl_toList, repr_fold (x := x) 39 _ _ ch]
  simp
def comma : List Nat := [44, 32]
theorem tl_comma : tl (Str.ofString ", ") = comma := by decide +kernel
/-- the signs of the text -/
abbrev sg (d : PyData) : List Nat := tl d.shown
theorem all_sg : ∀ ds : List PyData, (PyData.shownAll ds).map tl = ds.map sg
  | [] => by simp [PyData.shownAll]
  | d :: ds => by rw [PyData.shownAll_cons, List.map_cons, List.map_cons, all_sg ds]
theorem sg_list (ds : List PyData) : sg (.list ds) = 91 :: (joinL comma (ds.map sg) ++ [93]) := by
  show tl (PyData.shown _) = _
  have e : PyData.shown (.list ds) = listText (PyData.shownAll ds) := by simp only [PyData.shown]
  have e1 : tl (Str.ofString "[") = [91] := by decide +kernel
  have e2 : tl (Str.ofString "]") = [93] := by decide +kernel
  rw [e, listText_eq_join]
  show tl (Str.ofString "[" ++ Str.join (Str.ofString ", ") (PyData.shownAll ds) ++ Str.ofString "]") = _
  rw [tl_append, tl_append, tl_join, e1, e2, tl_comma, all_sg]
  rfl
def clo (n : Nat) : List Nat := if n = 1 then [44, 41] else [41]
theorem sg_tuple (ds : List PyData) : sg (.tuple ds) = 40 :: (joinL comma (ds.map sg) ++ clo ds.length) := by
  show tl (PyData.shown _) = _
  have e : PyData.shown (.tuple ds) = tupleText (PyData.shownAll ds) := by simp only [PyData.shown]
  have e1 : tl (Str.ofString "(") = [40] := by decide +kernel
  have e2 : ∀ n : Nat, tl (Str.ofString (if (n == 1) = true then ",)" else ")")) = clo n := fun n => by
    unfold clo
    by_cases h : n = 1
    · rw [if_pos (by simpa using h), if_pos h]
      decide +kernel
    · rw [if_neg (by simpa using h), if_neg h]
      decide +kernel
  rw [e]
  show tl (Str.ofString "(" ++ Str.join (Str.ofString ", ") (PyData.shownAll ds) ++ Str.ofString (if ((PyData.shownAll ds).length == 1) = true then ",)" else ")")) = _
  rw [tl_append, tl_append, tl_join, e1, e2, tl_comma, all_sg, PyData.shownAll_length]
  rfl
/-- the kind of data by its first sign -/
def tag (c : Nat) : Nat := if c = 78 then 0 else if c = 84 then 1 else if c = 70 then 2 else if 48 ≤ c ∧ c ≤ 57 then 3 else if c = 39 then 4 else if c = 91 then 5 else if c = 40 then 6 else 9
def kindOf : PyData → Nat
  | .none => 0 | .bool true => 1 | .bool false => 2 | .int _ => 3 | .str _ => 4 | .list _ => 5 | .tuple _ => 6 | .dict _ => 7
theorem sg_int {i : Int} (h : 0 ≤ i) : sg (.int i) = numL i.toNat := by
  have e : i = ((i.toNat : Nat) : Int) := by omega
  show tl (PyData.shown (.int i)) = _
  rw [PyData.shown_int]
  conv => lhs; rw [e]
  exact tl_num _
theorem first {d : PyData} (h : plainD d = true) : ∃ c t, sg d = c :: t ∧ tag c = kindOf d := by
  cases d with
  | none => exact ⟨78, [111, 110, 101], by show tl (PyData.shown _) = _; rw [PyData.shown_none]; decide +kernel, by decide⟩
  | bool b =>
    cases b with
    | true => exact ⟨84, [114, 117, 101], by show tl (PyData.shown _) = _; rw [PyData.shown_bool]; decide +kernel, by decide⟩
    | false => exact ⟨70, [97, 108, 115, 101], by show tl (PyData.shown _) = _; rw [PyData.shown_bool]; decide +kernel, by decide⟩
  | int i =>
    have h0 : 0 ≤ i := by simpa [plainD] using h
    rw [sg_int h0]
    cases e : numL i.toNat with
    | nil => exact absurd e (numL_ne _)
    | cons c t =>
      refine ⟨c, t, rfl, ?_⟩
      have := numL_digits i.toNat c (by rw [e]; exact List.mem_cons_self ..)
      unfold tag
      rw [if_neg (by omega), if_neg (by omega), if_neg (by omega), if_pos (by omega)]
      rfl
  | str x =>
    refine ⟨39, tl x ++ [39], ?_, rfl⟩
    show tl (PyData.shown _) = _
    rw [PyData.shown_str]
    exact tl_repr (by simpa only [plainD] using h)
  | list ds => exact ⟨91, _, sg_list ds, rfl⟩
  | tuple ds => exact ⟨40, _, sg_tuple ds, rfl⟩
  | dict _ => simp [plainD] at h
theorem same_kind {d d' : PyData} (h : plainD d = true) (h' : plainD d' = true) {r r' : List Nat} (e : sg d ++ r = sg d' ++ r') : kindOf d = kindOf d' := by
  obtain ⟨c, t, a, b⟩ := first h
  obtain ⟨c', t', a', b'⟩ := first h'
  rw [a, a'] at e
  injection e with e1 _
  rw [← b, ← b', e1]
/-- what stands behind data -/
def After (r : List Nat) : Prop := ∀ c t, r = c :: t → ¬ (48 ≤ c ∧ c ≤ 57)
def Fin1 (f : List Nat) : Prop := (∃ t, f = 41 :: t) ∨ (∃ t, f = 93 :: t) ∨ ∃ t, f = 44 :: 41 :: t
theorem Fin1.after {f : List Nat} (h : Fin1 f) : After f := by
  rcases h with ⟨t, rfl⟩ | ⟨t, rfl⟩ | ⟨t, rfl⟩ <;> (intro c u e; injection e with e1 _; omega)
theorem comma_after (t : List Nat) : After (comma ++ t) := by
  intro c u e
  injection e with e1 _
  omega
theorem digits_cut {a b : List Nat} : ∀ {r r' : List Nat}, (∀ c ∈ a, 48 ≤ c ∧ c ≤ 57) → (∀ c ∈ b, 48 ≤ c ∧ c ≤ 57) → After r → After r' → a ++ r = b ++ r' → a = b ∧ r = r' := by
  induction a generalizing b with
  | nil =>
    intro r r' ha hb hr hr' e
    cases b with
    | nil => exact ⟨rfl, e⟩
    | cons x b => exact absurd (hb x (List.mem_cons_self ..)) (hr x _ e)
  | cons y a ih =>
    intro r r' ha hb hr hr' e
    cases b with
    | nil => exact absurd (ha y (List.mem_cons_self ..)) (hr' y _ e.symm)
    | cons x b =>
      injection e with e1 e2
      obtain ⟨h1, h2⟩ := ih (fun c hc => ha c (List.mem_cons_of_mem _ hc)) (fun c hc => hb c (List.mem_cons_of_mem _ hc)) hr hr' e2
      exact ⟨by rw [e1, h1], h2⟩
theorem quote_cut {a b r r' : List Nat} (ha : 39 ∉ a) (hb : 39 ∉ b) (e : a ++ 39 :: r = b ++ 39 :: r') : a = b ∧ r = r' := by
  induction a generalizing b with
  | nil =>
    cases b with
    | nil => exact ⟨rfl, (List.cons.inj e).2⟩
    | cons x b => exact absurd (by rw [← (List.cons.inj e).1]; exact List.mem_cons_self ..) hb
  | cons y a ih =>
    cases b with
    | nil => exact absurd (by rw [(List.cons.inj e).1]; exact List.mem_cons_self ..) ha
    | cons x b =>
      injection e with e1 e2
      obtain ⟨h1, h2⟩ := ih (fun z => ha (List.mem_cons_of_mem _ z)) (fun z => hb (List.mem_cons_of_mem _ z)) e2
      exact ⟨by rw [e1, h1], h2⟩
theorem no39 {x : Str} (h : x.cps.toList.all signOk = true) : 39 ∉ tl x := fun m => absurd (List.all_eq_true.mp h 39 m) (by decide)
theorem clo_fin (n : Nat) (r : List Nat) : Fin1 (clo n ++ r) := by
  unfold clo
  by_cases h : n = 1
  · rw [if_pos h]; exact .inr (.inr ⟨r, rfl⟩)
  · rw [if_neg h]; exact .inl ⟨r, rfl⟩
theorem kind_le : ∀ d : PyData, kindOf d ≤ 7
  | .none => by decide
  | .bool true => by decide
  | .bool false => by decide
  | .int _ => by show 3 ≤ 7; decide
  | .str _ => by show 4 ≤ 7; decide
  | .list _ => by show 5 ≤ 7; decide
  | .tuple _ => by show 6 ≤ 7; decide
  | .dict _ => by show 7 ≤ 7; decide
theorem fin_no {f : List Nat} (h : Fin1 f) {d : PyData} (hd : plainD d = true) {t : List Nat} (e : f = sg d ++ t) : False := by
  obtain ⟨c, u, a, b⟩ := first hd
  rw [a] at e
  have k := kind_le d
  have t1 : tag 41 = 9 := by decide
  have t2 : tag 93 = 9 := by decide
  have t3 : tag 44 = 9 := by decide
  rcases h with ⟨t', rfl⟩ | ⟨t', rfl⟩ | ⟨t', rfl⟩
  all_goals
    injection e with e1 _
    rw [← e1] at b
    omega
mutual
theorem sg_cut : ∀ (d d' : PyData) (r r' : List Nat), plainD d = true → plainD d' = true → After r → After r' → sg d ++ r = sg d' ++ r' → d = d' ∧ r = r'
  | .none, d', r, r', h, h', _, _, e => by
    have k := same_kind h h' e
    cases d' with
    | none => exact ⟨rfl, List.append_cancel_left e⟩
    | bool b => cases b <;> cases k
    | _ => cases k
  | .bool true, d', r, r', h, h', _, _, e => by
    have k := same_kind h h' e
    cases d' with
    | bool b =>
      cases b with
      | true => exact ⟨rfl, List.append_cancel_left e⟩
      | false => cases k
    | _ => cases k
  | .bool false, d', r, r', h, h', _, _, e => by
    have k := same_kind h h' e
    cases d' with
    | bool b =>
      cases b with
      | true => cases k
      | false => exact ⟨rfl, List.append_cancel_left e⟩
    | _ => cases k
  | .int i, d', r, r', h, h', hr, hr', e => by
    have k := same_kind h h' e
    cases d' with
    | int j =>
      have h0 : 0 ≤ i := by simpa [plainD] using h
      have h1 : 0 ≤ j := by simpa [plainD] using h'
      rw [sg_int h0, sg_int h1] at e
      obtain ⟨a, b⟩ := digits_cut (numL_digits _) (numL_digits _) hr hr' e
      have := numL_inj a
      exact ⟨by congr 1; omega, b⟩
    | bool b => cases b <;> cases k
    | _ => cases k
  | .str x, d', r, r', h, h', _, _, e => by
    have k := same_kind h h' e
    cases d' with
    | str y =>
      have h0 : x.cps.toList.all signOk = true := by simpa only [plainD] using h
      have h1 : y.cps.toList.all signOk = true := by simpa only [plainD] using h'
      have e' : tl (reprText x) ++ r = tl (reprText y) ++ r' := by rw [← PyData.shown_str, ← PyData.shown_str]; exact e
      rw [tl_repr h0, tl_repr h1] at e'
      injection e' with _ e2
      rw [List.append_eq, List.append_eq, List.append_assoc, List.append_assoc] at e2
      obtain ⟨a, b⟩ := quote_cut (no39 h0) (no39 h1) e2
      exact ⟨by rw [ext_tl a], b⟩
    | bool b => cases b <;> cases k
    | _ => cases k
  | .list ds, d', r, r', h, h', hr, hr', e => by
    have k := same_kind h h' e
    cases d' with
    | list ds' =>
      have h0 : plainDs ds = true := by simpa only [plainD] using h
      have h1 : plainDs ds' = true := by simpa only [plainD] using h'
      rw [sg_list, sg_list] at e
      injection e with _ e2
      rw [List.append_eq, List.append_eq, List.append_assoc, List.append_assoc] at e2
      obtain ⟨a, b⟩ := sgs_cut ds ds' _ _ h0 h1 (.inr (.inl ⟨r, rfl⟩)) (.inr (.inl ⟨r', rfl⟩)) e2
      exact ⟨by rw [a], (List.cons.inj b).2⟩
    | bool b => cases b <;> cases k
    | _ => cases k
  | .tuple ds, d', r, r', h, h', hr, hr', e => by
    have k := same_kind h h' e
    cases d' with
    | tuple ds' =>
      have h0 : plainDs ds = true := by simpa only [plainD] using h
      have h1 : plainDs ds' = true := by simpa only [plainD] using h'
      rw [sg_tuple, sg_tuple] at e
      injection e with _ e2
      rw [List.append_eq, List.append_eq, List.append_assoc, List.append_assoc] at e2
      obtain ⟨a, b⟩ := sgs_cut ds ds' _ _ h0 h1 (clo_fin _ r) (clo_fin _ r') e2
      subst a
      exact ⟨rfl, List.append_cancel_left b⟩
    | bool b => cases b <;> cases k
    | _ => cases k
  | .dict _, _, _, _, h, _, _, _, _ => by simp [plainD] at h
theorem sgs_cut : ∀ (ds ds' : List PyData) (f f' : List Nat), plainDs ds = true → plainDs ds' = true → Fin1 f → Fin1 f' → joinL comma (ds.map sg) ++ f = joinL comma (ds'.map sg) ++ f' → ds = ds' ∧ f = f'
  | [], [], _, _, _, _, _, _, e => ⟨rfl, e⟩
  | [], [d'], f, f', _, h', hf, _, e => by
    have h1 : plainD d' = true := by simpa [plainDs] using h'
    exact (fin_no hf h1 (t := f') e).elim
  | [], d' :: e' :: ds', f, f', _, h', hf, _, e => by
    have h1 : plainD d' = true ∧ plainD e' = true ∧ plainDs ds' = true := by simpa [plainDs] using h'
    exact (fin_no hf h1.1 (t := comma ++ joinL comma ((e' :: ds').map sg) ++ f') (by
      have : f = sg d' ++ (comma ++ joinL comma ((e' :: ds').map sg)) ++ f' := e
      rw [this, List.append_assoc])).elim
  | [d], [], f, f', h, _, _, hf', e => by
    have h1 : plainD d = true := by simpa [plainDs] using h
    exact (fin_no hf' h1 (t := f) e.symm).elim
  | d :: e' :: ds, [], f, f', h, _, _, hf', e => by
    have h1 : plainD d = true ∧ plainD e' = true ∧ plainDs ds = true := by simpa [plainDs] using h
    exact (fin_no hf' h1.1 (t := comma ++ joinL comma ((e' :: ds).map sg) ++ f) (by
      have : sg d ++ (comma ++ joinL comma ((e' :: ds).map sg)) ++ f = f' := e
      rw [← this, List.append_assoc])).elim
  | [d], [d'], f, f', h, h', hf, hf', e => by
    have h0 : plainD d = true := by simpa [plainDs] using h
    have h1 : plainD d' = true := by simpa [plainDs] using h'
    obtain ⟨a, b⟩ := sg_cut d d' f f' h0 h1 hf.after hf'.after e
    exact ⟨by rw [a], b⟩
  | [d], d' :: e' :: ds', f, f', h, h', hf, hf', e => by
    have h0 : plainD d = true := by simpa [plainDs] using h
    have h1 : plainD d' = true ∧ plainD e' = true ∧ plainDs ds' = true := by simpa [plainDs] using h'
    have e1 : sg d ++ f = sg d' ++ (comma ++ (joinL comma ((e' :: ds').map sg) ++ f')) := by
      have : sg d ++ f = sg d' ++ (comma ++ joinL comma ((e' :: ds').map sg)) ++ f' := e
      rw [this, List.append_assoc, List.append_assoc]
    obtain ⟨_, b⟩ := sg_cut d d' f _ h0 h1.1 hf.after (comma_after _) e1
    rcases hf with ⟨t, rfl⟩ | ⟨t, rfl⟩ | ⟨t, rfl⟩
    · injection b with b1 _; cases b1
    · injection b with b1 _; cases b1
    · injection b with _ b2; injection b2 with b3 _; cases b3
  | d :: e' :: ds, [d'], f, f', h, h', hf, hf', e => by
    have h0 : plainD d = true ∧ plainD e' = true ∧ plainDs ds = true := by simpa [plainDs] using h
    have h1 : plainD d' = true := by simpa [plainDs] using h'
    have e1 : sg d ++ (comma ++ (joinL comma ((e' :: ds).map sg) ++ f)) = sg d' ++ f' := by
      have : sg d ++ (comma ++ joinL comma ((e' :: ds).map sg)) ++ f = sg d' ++ f' := e
      rw [← this, List.append_assoc, List.append_assoc]
    obtain ⟨_, b⟩ := sg_cut d d' _ f' h0.1 h1 (comma_after _) hf'.after e1
    rcases hf' with ⟨t, rfl⟩ | ⟨t, rfl⟩ | ⟨t, rfl⟩
    · injection b with b1 _; cases b1
    · injection b with b1 _; cases b1
    · injection b with _ b2; injection b2 with b3 _; cases b3
  | d :: e1 :: ds, d' :: e2 :: ds', f, f', h, h', hf, hf', e => by
    have h0 : plainD d = true ∧ plainDs (e1 :: ds) = true := by simpa [plainDs] using h
    have h1 : plainD d' = true ∧ plainDs (e2 :: ds') = true := by simpa [plainDs] using h'
    have e3 : sg d ++ (comma ++ (joinL comma ((e1 :: ds).map sg) ++ f)) = sg d' ++ (comma ++ (joinL comma ((e2 :: ds').map sg) ++ f')) := by
      have : sg d ++ (comma ++ joinL comma ((e1 :: ds).map sg)) ++ f = sg d' ++ (comma ++ joinL comma ((e2 :: ds').map sg)) ++ f' := e
      rw [List.append_assoc, List.append_assoc, List.append_assoc, List.append_assoc] at this
      exact this
    obtain ⟨a, b⟩ := sg_cut d d' _ _ h0.1 h1.1 (comma_after _) (comma_after _) e3
    obtain ⟨a2, b2⟩ := sgs_cut (e1 :: ds) (e2 :: ds') f f' h0.2 h1.2 hf hf' (List.append_cancel_left b)
    exact ⟨by rw [a, a2], b2⟩
end
theorem shown_inj {d d' : PyData} (h : plainD d = true) (h' : plainD d' = true) (e : d.shown = d'.shown) : d = d' :=
  (sg_cut d d' [] [] h h' (fun _ _ z => nomatch z) (fun _ _ z => nomatch z) (by rw [List.append_nil, List.append_nil]; exact congrArg tl e)).1
end Mine

set_option Elab.async false
set_option linter.all false
set_option maxRecDepth 100000
set_option maxHeartbeats 4000000
/-! A written tuple as a plain one. -/
namespace Mine
open PySem PySem.Spec PyProof.Rows L2
section
variable {X : Cx} {es : List Expr} {t : L2.TA} {pos : Pos}
def tTupF (t : L2.TA) : L2.TE := fun σ H Q => t σ H fun xs H1 => xs.length ≤ sizeLine ∧ ∀ p o, H1 p = none → o.dict = none → Q (.ref p) (upd H1 p (.frz o (.tup xs)))
theorem pe_tupF {x1} (h : L2.PA X es t) : L2.PE X (.Tuple es x1 pos) (tTupF t) := by
  refine ⟨fun pins s σ H Q I hq => ?_⟩
  refine wpAny_Tuple_spliced (thn (h.run pos pins s σ H _ I hq) fun us s1 ⟨xs, H1, I1, r, z, q⟩ => ⟨by rw [← r.length]; exact z, ?_⟩)
  have hf : H1 s1.heap.objs.size = none := I1.hok.fresh (Nat.le_refl _)
  refine ⟨.ref s1.heap.objs.size, upd H1 s1.heap.objs.size (.frz { cls := .type "tuple", data := .seq us.toArray } (.tup xs)), I1.laid (t' := s1.toks) (fun b u e => Heap.get?_push_of_some _ e) (Nat.le_refl _) ?_, rfl, q _ _ hf rfl⟩
  exact ⟨Heap.get?_push_size _ rfl, z, us, r, ⟨_, Heap.get?_push_size _ rfl, rfl, _, rfl⟩⟩
end
end Mine

set_option Elab.async false
set_option linter.all false
set_option maxRecDepth 100000
set_option maxHeartbeats 4000000
/-! Sets of texts that can be walked: made by a comprehension, sorted. -/
namespace Mine
open PySem PySem.Spec PyProof.Rows L2 PySem.Froz
/-- the set at a has just the texts l, each once -/
def SetS (P : Program) (w : World) (h : Heap) (a : Addr) (l : List Str) : Prop :=
  ∃ D : SD, h.get? a = some (sObj "set" D) ∧ TxOk P w D l ∧ l.Nodup ∧ l.length < scanBound ∧ Ris D.2.2.place.toList ∧ (w.params.followText "set-order" = true ∨ D.2.2.led = true)
section
variable {P : Program} {w : World} {A : Around} {E : Value → Shared → Prop} {s : Shared} {h h' : Heap} {a : Addr} {l : List Str}
theorem SetS.at' (R : SetS P w h a l) (k : ∀ o, h.get? a = some o → h'.get? a = some o) : SetS P w h' a l :=
  let ⟨D, e, r⟩ := R
  ⟨D, k _ e, r⟩
theorem setS_new (w : World) (h : Heap) : SetS P w (h.push { cls := .type "set", dict := none, data := .set #[] 0 (.fresh 0 0 (!w.params.followText "set-order")) }) h.objs.size [] := by
  refine ⟨(#[], 0, .fresh 0 0 (!w.params.followText "set-order")), Heap.get?_push_size _ rfl, TxOk.nil (by rfl), List.nodup_nil, by decide, List.Pairwise.nil, ?_⟩
  show _ ∨ (!w.params.followText "set-order") = true
  cases w.params.followText "set-order"
  · exact .inr rfl
  · exact .inl rfl
theorem tailTx_ris {ep : Nat} {es : Array (Int × Value)} {t : SetTable} {b : Bool} (r : Ris t.place.toList) : Ris (tailTx ep es t b).2.2.place.toList := by
  unfold tailTx
  by_cases c : (!b && t.tooFull) = true
  · rw [if_pos c]
    exact relayAll_ris _ _ _
  · rw [if_neg c]
    exact r
theorem tailTx_led {ep : Nat} {es : Array (Int × Value)} {t : SetTable} {b : Bool} : (tailTx ep es t b).2.2.led = t.led := by
  unfold tailTx
  by_cases c : (!b && t.tooFull) = true
  · rw [if_pos c]
    exact relayAll_led _ _ _
  · rw [if_neg c]
theorem addTx_ris {hs : Int} {v : Value} {D : SD} (r : Ris D.2.2.place.toList) : Ris (addTx hs v D).2.2.place.toList := by
  refine tailTx_ris ?_
  have r1 := layNew_ris D.2.2 D.1 hs v r
  by_cases c : (layNew D.2.2 D.1 hs v).2.1.plain = true
  · rw [if_pos c]
    exact r1
  · rw [if_neg c]
    exact r1
theorem addTx_led {hs : Int} {v : Value} {D : SD} : (addTx hs v D).2.2.led = D.2.2.led := by
  refine tailTx_led.trans ?_
  have r1 := layNew_led D.2.2 D.1 hs v
  by_cases c : (layNew D.2.2 D.1 hs v).2.1.plain = true
  · rw [if_pos c]
    exact r1
  · rw [if_neg c]
    exact r1
/-- one text more -/
def insS (l : List Str) (k : Str) : List Str := if k ∈ l then l else k :: l
theorem mem_insS {l : List Str} {k x : Str} : x ∈ insS l k ↔ x = k ∨ x ∈ l := by
  unfold insS
  by_cases h : k ∈ l
  · rw [if_pos h]
    exact ⟨.inr, fun z => z.elim (fun e => e ▸ h) id⟩
  · rw [if_neg h]
    exact List.mem_cons
theorem insS_len {l : List Str} {k : Str} : (insS l k).length ≤ l.length + 1 := by
  unfold insS
  split <;> simp
theorem addHashed_S {k : Str} {u : PySem.Tok} {Q : Bool → Shared → Prop} (R : SetS P w s.heap a l) (room : l.length + 1 < scanBound)
    (q : ∀ b hp, (∀ c o, c ≠ a → s.heap.get? c = some o → hp.get? c = some o) → SetS P w hp a (insS l k) → Q b { s with heap := hp }) : wpAny (model P w) A (setAddHashed a (.str k u) (hashStr w k)) Q E s := by
  obtain ⟨D, ho, F, nd, lb, ri, le⟩ := R
  by_cases m : k ∈ l
  · obtain ⟨es, ep, t⟩ := D
    have hd : (sObj "set" (es, ep, t)).data = .set es ep t := rfl
    have fit : t.fits es.size = true := F.fit
    have els : ElemsOf (strKind P w) es.toList := F.el
    have small : es.size < scanBound := by
      have z : es.size = l.length := F.sz
      omega
    have key : (strKind P w).is k (.str k u) = true := is_str k u
    have e1 : insS l k = l := if_pos m
    rw [e1] at q
    unfold setAddHashed setAddHashedIn
    refine wpAny_holding (wpAny_bind (wpAny_setState_of ho hd fit ?_))
    dsimp only
    rw [byScan_of rfl small els]
    simp only [↓reduceIte]
    unfold setAddByScan
    refine wpAny_bind ?_
    refine wpAny_bind (wpAny_rule ?_)
    refine wpAny_bind (wpAny_setScan_of (knd := strKind P w) (k := k) key ho hd fit els ?_)
    cases fx : List.findIdx? (fun z => (strKind P w).is k z.2) es.toList with
    | none =>
      obtain ⟨z, hz, hk⟩ := (F.mem k).mp m
      have := List.findIdx?_eq_none_iff.mp fx z hz
      rw [hk] at this
      cases this
    | some j =>
      dsimp only
      exact wpAny_pure (wpAny_pure (q _ s.heap (fun _ _ _ e => e) ⟨(es, ep, t), ho, F, nd, lb, ri, le⟩))
  · refine add_x ho F m room (q true _ (fun c o hc e => (Heap.get?_update_other _ _ (Ne.symm hc)).trans e) ⟨addTx (hashStr w k) (.str k u) D, get_upd _ ho rfl, ?_, ?_, ?_, addTx_ris ri, ?_⟩)
    · unfold insS
      rw [if_neg m]
      exact add_ok u F
    · unfold insS
      rw [if_neg m]
      exact List.nodup_cons.mpr ⟨m, nd⟩
    · unfold insS
      rw [if_neg m]
      exact room
    · rw [addTx_led]
      exact le
theorem call_addS {k : Str} {u : PySem.Tok} {Q : Value → Shared → Prop} (R : SetS P w s.heap a l) (room : l.length + 1 < scanBound)
    (q : ∀ hp tk, (∀ c o, c ≠ a → s.heap.get? c = some o → hp.get? c = some o) → SetS P w hp a (insS l k) → Q .none { s with heap := hp, toks := tk }) : wpAny (model P w) A (call (.builtin "set.add") [.ref a, .str k u]) Q E s := by
  obtain ⟨D, ho, r⟩ := id R
  refine wpAny_call_entry PySem.F.slot_set_add ⟨_, ho, rfl⟩ PySem.F.entry_set_add ?_ (PySem.F.args_set_add_2 _ _)
  unfold Builtin.«set.add» Builtin.Frozenset.oneOther
  simp only [List.isEmpty_nil, bind_assoc]
  unfold Builtin.Frozenset.addrOf setAdd
  refine wpAny_bind (wpAny_pure ?_)
  try dsimp only
  refine wpAny_bind (wpAny_pure ?_)
  try dsimp only
  refine wpAny_bind (wpAny_holding (wpAny_bind ((strKind P w).pyHash (is_str k u) ?_)))
  refine addHashed_S (s := { s with toks := s.toks + 1 }) R room fun b hp keep R' => ?_
  show wpAny _ _ (ret Value.none) _ _ _
  exact wpAny_pure ⟨_, rfl, q hp _ keep R'⟩
end
/-- .. as a tracked thing -/
def SetSO (P : Program) (w : World) (a : Addr) (l : List Str) : HO := .ext fun h => SetS P w h a l
theorem setSO_ok {P : Program} {w : World} {H : Hp} {h : Heap} {a : Addr} {l : List Str} (R : SetS P w h a l) : ObjOk P w H h a (SetSO P w a l) := by
  obtain ⟨D, ho, _⟩ := id R
  exact ⟨R, ⟨_, ho⟩, fun h1 h2 z k => SetS.at' z k⟩
section
variable {X : Cx}
theorem setSO_at {pins : List (Addr × Obj)} {σ : L2.St} {H : Hp} {s : Shared} {a : Addr} {l : List Str} (I : L2.Inv X pins σ H s) (e : H a = some (SetSO X.prog X.w a l)) : SetS X.prog X.w s.heap a l := (I.hok a _ e).1
/-- a text put into a tracked set -/
theorem addSO {pins : List (Addr × Obj)} {σ : L2.St} {H : Hp} {s : Shared} {E : Value → Shared → Prop} {a : Addr} {l : List Str} {k : Str} {u : PySem.Tok} {Q : Value → Shared → Prop} (I : L2.Inv X pins σ H s) (e : H a = some (SetSO X.prog X.w a l)) (room : l.length + 1 < scanBound)
    (q : ∀ s', L2.Inv X pins σ (upd H a (SetSO X.prog X.w a (insS l k))) s' → Q .none s') : wpAny (model X.prog X.w) X.A (call (.builtin "set.add") [.ref a, .str k u]) Q E s := by
  refine call_addS (setSO_at I e) room fun hp tk keep R' => q _ ?_
  obtain ⟨D, ho, _⟩ := id R'
  exact I.write (e := a) (t' := tk) (by rw [e]; trivial) (.inl rfl) (fun c o hc hu => keep c o hc hu) ⟨_, ho⟩ (setSO_ok R')
/-- {elt for target in iter if ..}, texts: D is the new set -/
def tScS (P : Program) (w : World) (wi : TI) (g : TG) (tt : TT) (te : L2.TE) (vs : List Nat) : L2.TE := fun σ H Q => wi σ H fun J H1 => ∀ D, H1 D = none → ∃ W : Nat → Nat → Hp → Prop, (∃ m, W 0 m (upd H1 D (SetSO P w D []))) ∧ ∀ i m H, W i m H →
  (J.stop i H ∧ Q (.ref D) H) ∨ (J.go i H ∧ ∃ N : Hp → Prop, (∀ H', N H' → ∃ m', m' < m ∧ W (i + 1) m' H') ∧ ∀ x H', J.yld i H x H' → g x (wipe σ vs) H' fun σ2 H2 => wipe σ2 vs = wipe σ vs ∧ tt σ2 H2 fun b H3 =>
    if b = true then te σ2 H3 fun y H4 => ∃ (k : Str) (l : List Str), y = .str k ∧ H4 D = some (SetSO P w D l) ∧ l.length + 1 < scanBound ∧ N (upd H4 D (SetSO P w D (insS l k))) else N H3)
theorem pe_scS {elt tg iter : Expr} {ifs : List Expr} {scope : Scope} {own : List (PySem.Str × Nat)} {pos : Pos} {wi : TI} {g : TG} {tt : TT} {te : L2.TE} (hc : X.calm = true) (hN : X.N.Nodup) (hi : PI X tg iter wi) (ok : BlkOk X.N X.env.scope scope own)
    (hg : ∀ (s : Shared) (H : Hp) (C : Addr) (cl : List (PySem.Str × Addr)) (fp : List Addr), PG (X.blk s H scope (compEnvC scope cl C X.env) fp) tg g) (ht : ∀ (s : Shared) (H : Hp) (C : Addr) (cl : List (PySem.Str × Addr)) (fp : List Addr), PTs (X.blk s H scope (compEnvC scope cl C X.env) fp) ifs tt)
    (he : ∀ (s : Shared) (H : Hp) (C : Addr) (cl : List (PySem.Str × Addr)) (fp : List Addr), L2.PE (X.blk s H scope (compEnvC scope cl C X.env) fp) elt te) (hs : ∀ x, foldedSetIterable iter X.env x = pure x := by intro _; rfl) :
    L2.PE X (.SetComp elt [⟨tg, iter, ifs, 0⟩] scope pos) (tScS X.prog X.w wi g tt te (own.map (·.2))) := by
  refine ⟨fun pins s σ H Q I h => ?_⟩
  rw [PpSet.eval_SetComp]
  have fr : ∀ y ∈ scope.names, y.2 = .free → ∃ c, X.env.cells.lookup y.1 = some c := fun y hy e => (ok.free y hy e).elim (fun z => I.ok.has _ (.inl z)) fun z => I.ok.has _ (.inr z)
  refine wpAny_comprehension_free (use := none) rfl hs (closure_ok fr) ok.kind (fun y hy e => by rw [ok.uniq y hy, e]) (thn (hi.run pins s σ H _ I h) fun xv sa hx => thn hx fun iv sb hb => ?_)
  obtain ⟨it, fp, tn, J, Hb, e0, Ib, T, stb, fb, q⟩ := hb
  subst e0
  refine PpSet.newSet_ok (newEnv_comp ?_)
  generalize hD : sb.heap.objs.size = D
  have nD : Hb D = none := Ib.hok.fresh (Nat.le_of_eq hD)
  obtain ⟨W, ⟨m0, wz⟩, turn⟩ := q D nD
  generalize hsc : ({ sb with heap := sb.heap.push { cls := .type "set", dict := none, data := .set #[] 0 (.fresh 0 0 (!X.w.params.followText "set-order")) } } : Shared) = sc
  have hpc : sc.heap = sb.heap.push { cls := .type "set", dict := none, data := .set #[] 0 (.fresh 0 0 (!X.w.params.followText "set-order")) } := by rw [← hsc]
  have Ic : L2.Inv X pins σ (upd Hb D (SetSO X.prog X.w D [])) sc := by
    rw [← hsc]
    refine Ib.laid (t' := sb.toks) (fun b o e => Heap.get?_push_of_some _ e) (Nat.le_of_eq hD) ?_
    rw [← hD]
    exact setSO_ok (setS_new X.w sb.heap)
  have low : ∀ b ∈ fp, b < sb.heap.objs.size := fun b hb => let ⟨o, e, _⟩ := T.obj _ _ stb b hb; Heap.lt_size e
  have fc : ∀ b ∈ fp, FpOk X pins (upd Hb D (SetSO X.prog X.w D [])) b ∧ b < sc.heap.objs.size := fun b hb => by
    have lt := low b hb
    refine ⟨⟨?_, (fb b hb).2⟩, by rw [hpc, Heap.size_push]; exact Nat.lt_succ_of_lt lt⟩
    rw [upd_ne (by rw [← hD]; exact Nat.ne_of_lt lt)]
    exact (fb b hb).1
  have stc : tn 0 sc.heap := T.keep _ _ _ stb fun b _ o e => by rw [hpc]; exact Heap.get?_push_of_some _ e
  have Id := block_start Ic ok hN fc
  have rg := hg sc (upd Hb D (SetSO X.prog X.w D [])) sc.heap.objs.size (cellsFrom (sc.heap.objs.size + 1) scope.names (cloFrom X.env.cells scope.names [])) fp
  have rt := ht sc (upd Hb D (SetSO X.prog X.w D [])) sc.heap.objs.size (cellsFrom (sc.heap.objs.size + 1) scope.names (cloFrom X.env.cells scope.names [])) fp
  have re := he sc (upd Hb D (SetSO X.prog X.w D [])) sc.heap.objs.size (cellsFrom (sc.heap.objs.size + 1) scope.names (cloFrom X.env.cells scope.names [])) fp
  show codeAny _ _ (.compStart (.SetComp elt [⟨tg, iter, ifs, 0⟩] scope pos) 0 (.ref it) (.ref D) (compEnvC scope (cellsFrom (sc.heap.objs.size + 1) scope.names (cloFrom X.env.cells scope.names [])) sc.heap.objs.size X.env)) (compPost (model X.prog X.w) X.A X.xe none _ (.ref D) sc.heap.objs.size) { sc with heap := pushCells (sc.heap.push { cls := .type "dict", data := .dict #[] }) scope.names }
  have zfp : ∀ b ∈ fp, (upd Hb D (SetSO X.prog X.w D [])) b = none := fun b hb => (fc b hb).1.1
  generalize hce : compEnvC scope (cellsFrom (sc.heap.objs.size + 1) scope.names (cloFrom X.env.cells scope.names [])) sc.heap.objs.size X.env = ce at Id rg rt re ⊢
  have locs : ce.locals = sc.heap.objs.size := by subst hce; rfl
  generalize hHc : upd Hb D (SetSO X.prog X.w D []) = Hc at Ic Id rg rt re wz zfp fc
  generalize hsd : ({ sc with heap := pushCells (sc.heap.push { cls := .type "dict", data := .dict #[] }) scope.names } : Shared) = sd at Id ⊢
  have std : tn 0 sd.heap := T.keep _ _ _ stc fun b _ o e => by rw [← hsd]; exact pushCells_keeps _ _ _ _ (Heap.get?_push_of_some _ e)
  have okfp : ∀ {σ' : L2.St} {H' : Hp} {s' : Shared}, L2.Inv (X.blk sc Hc scope ce fp) [] σ' H' s' → (∀ b ∈ fp, H' b = none) → ∀ b ∈ fp, FpOk (X.blk sc Hc scope ce fp) [] H' b := fun {σ' H' s'} I' z b hb =>
    ⟨z b hb, (I'.ok.exf b hb).1, I'.ok.exfs b hb, .inl hb, fun x c e => (I'.ok.exf b hb).2 x c e, fun p hp => (List.not_mem_nil hp).elim⟩
  have loop : codeAny (model X.prog X.w) X.A (.compLoop (.SetComp elt [⟨tg, iter, ifs, 0⟩] scope pos) 0 (.ref it) (.ref D) ce) (compPost (model X.prog X.w) X.A X.xe none (L2.EP X pins σ Q) (.ref D) sc.heap.objs.size) sd := by
    refine PpSet.compLoopS_any (fun n s' => ∃ i H', L2.Inv (X.blk sc Hc scope ce fp) [] (wipe σ (own.map (·.2))) H' s' ∧ tn i s'.heap ∧ (∀ b ∈ fp, H' b = none) ∧ W i n H') ?_ m0 ⟨0, Hc, Id, std, zfp, wz⟩
    rintro n s1 ⟨i, H1, I1, st1, z1, w1⟩
    rcases turn i n H1 w1 with ⟨over, fin⟩ | ⟨go, N, hN', step⟩
    · refine thnF (T.done (X.blk sc Hc scope ce fp) rfl rfl rfl hc i [] s1 _ H1 (fun _ _ => False) I1 (okfp I1 z1) st1 over) fun r s2 ⟨hr, I2⟩ => ?_
      subst hr
      have I3 : L2.Inv X pins σ H1 s2 := Ic.call' (ch := fp) I2.os I2.base I2.hok I2.bare fun b hb => ⟨(fc b hb).1.2.2.2.1, (fc b hb).1.2.1, (fc b hb).1.2.2.2.2.1, (fc b hb).1.2.2.2.2.2⟩
      have nl : H1 sc.heap.objs.size = none := locs ▸ (show H1 ce.locals = none from I2.free)
      obtain ⟨m, ns, _⟩ := I2.loc
      have ns : s2.heap.Ns ce.locals m := ns
      rw [locs] at ns
      obtain ⟨f0, f1, f2, f3, f4, f5⟩ := Ic.fpOk (Nat.le_refl _) nl
      exact ⟨m, ns, fun h2 sb2 => ⟨.ref D, H1, I3.turned (t' := s2.toks) (fun b o hb e => (sb2.2 b hb).trans e) f0 f1 f3 f4 f5, rfl, fin⟩⟩
    · refine thnF (T.item (X.blk sc Hc scope ce fp) rfl rfl rfl hc i [] s1 _ H1 (fun _ _ => False) I1 (okfp I1 z1) st1 go) fun r s2 ⟨u, hr, hu⟩ => ?_
      subst hr
      refine thnF hu fun _ s3 ⟨x, H3, I3, r3, y3, st3, z3⟩ => ?_
      refine thnF (rg.run _ s3 _ H3 x u _ (I3.pinned (okfp I3 z3) (T.obj _ _ st3)) r3 (step x H3 y3)) fun _ s4 ⟨σ4, H4, I4, wp4, q4⟩ => ?_
      refine thnF (rt.run _ s4 σ4 H4 _ I4 q4) fun b s5 ⟨H5, I5, q5⟩ => ?_
      have back : ∀ {s' : Shared} {H' : Hp}, L2.Inv (X.blk sc Hc scope ce fp) ([] ++ pinsAt fp s3.heap) σ4 H' s' → N H' → ∃ m, m < n ∧ ∃ i H', L2.Inv (X.blk sc Hc scope ce fp) [] (wipe σ (own.map (·.2))) H' s' ∧ tn i s'.heap ∧ (∀ b ∈ fp, H' b = none) ∧ W i m H' := fun {s' H'} I' z => by
        obtain ⟨m', lt, w'⟩ := hN' H' z
        have same : ∀ b ∈ fp, ∀ o, s3.heap.get? b = some o → s'.heap.get? b = some o ∧ H' b = none := fun b hb o e =>
          ⟨(I'.pin (b, o) (List.mem_append_right _ (List.mem_append_right _ (mem_pinsAt hb e)))).1, (I'.pin (b, o) (List.mem_append_right _ (List.mem_append_right _ (mem_pinsAt hb e)))).2.1⟩
        refine ⟨m', lt, i + 1, H', (I'.unpinned (pins := [])).weak (by rw [← wp4, wipe_length]) (fun j v e => ?_), T.keep _ _ _ st3 fun b hb o e => (same b hb o e).1, fun b hb => ?_, w'⟩
        · rw [← wp4] at e
          exact (wipe_some e).1
        · obtain ⟨o, e, _⟩ := T.obj _ _ st3 b hb
          exact (same b hb o e).2
      cases b with
      | false =>
        simp only [Bool.false_eq_true, if_false] at q5 ⊢
        exact back I5 q5
      | true =>
        simp only [if_true] at q5 ⊢
        refine thnF (re.run _ s5 σ4 H5 _ I5 q5) fun z s6 ⟨y, H6, I6, r6, k, l, ey, e6, room, nx⟩ => ?_
        subst ey
        obtain ⟨t6, rfl⟩ := r6
        exact addSO (X := X.blk sc Hc scope ce fp) I6 e6 room fun s7 I7 => back I7 nx
  exact PpSet.codeAny_compStart_set loop (T.self X.A 0 _ _ _ std loop)
end
end Mine

set_option Elab.async false
set_option linter.all false
set_option maxRecDepth 100000
set_option maxHeartbeats 4000000
/-! A set of texts sorted; a comprehension over a list. -/
namespace Mine
open PySem PySem.Spec PyProof.Rows L2 PySem.Froz
theorem perm_of_sub {α : Type} [DecidableEq α] : ∀ {l m : List α}, l.Nodup → (∀ x ∈ l, x ∈ m) → m.length ≤ l.length → l.Perm m
  | [], m, _, _, h => by
    have : m = [] := List.length_eq_zero_iff.mp (Nat.le_zero.mp h)
    rw [this]
  | x :: l, m, nd, sub, h => by
    obtain ⟨hx, nd'⟩ := List.nodup_cons.mp nd
    have xm := sub x (List.mem_cons_self ..)
    have p := List.perm_cons_erase xm
    refine List.Perm.trans (List.Perm.cons x (perm_of_sub nd' (fun y hy => ?_) ?_)) p.symm
    · have : y ∈ x :: m.erase x := p.mem_iff.mp (sub y (List.mem_cons_of_mem _ hy))
      rcases List.mem_cons.mp this with rfl | z
      · exact absurd hy hx
      · exact z
    · have := p.length_eq
      rw [List.length_cons] at this h
      omega
theorem strs_of : ∀ (vs : List Value), (∀ v ∈ vs, ∃ k t, v = Value.str k t) → ∃ ss, StrsAre vs ss ∧ ∀ k, k ∈ ss ↔ ∃ t, Value.str k t ∈ vs
  | [], _ => ⟨[], .nil, fun k => by simp⟩
  | v :: vs, h => by
    obtain ⟨k, t, rfl⟩ := h _ (List.mem_cons_self ..)
    obtain ⟨ss, a, b⟩ := strs_of vs fun x hx => h x (List.mem_cons_of_mem _ hx)
    refine ⟨k :: ss, .cons k t a, fun j => ?_⟩
    rw [List.mem_cons, b j]
    constructor
    · rintro (rfl | ⟨u, hu⟩)
      · exact ⟨t, List.mem_cons_self ..⟩
      · exact ⟨u, List.mem_cons_of_mem _ hu⟩
    · rintro ⟨u, hu⟩
      rcases List.mem_cons.mp hu with e | hu
      · injection e with e1 _
        exact .inl e1
      · exact .inr ⟨u, hu⟩
theorem strsAre_len : ∀ {vs : List Value} {ss : List Str}, StrsAre vs ss → vs.length = ss.length
  | _, _, .nil => rfl
  | _, _, .cons _ _ r => by rw [List.length_cons, List.length_cons, strsAre_len r]
section
variable {P : Program} {w : World} {A : Around} {E : Value → Shared → Prop} {s : Shared} {a : Addr} {l : List Str}
theorem sorted_S {Q : Value → Shared → Prop} (R : SetS P w s.heap a l) (hh : A.handled = none)
    (q : ∀ s' p (out : Array Value) (c : Nat) (ys : List Str), (∀ b o, s.heap.get? b = some o → s'.heap.get? b = some o) → s'.gens = s.gens → s'.os = s.os → s.heap.objs.size ≤ p → s'.heap.get? p = some (seqObj "list" out c) → StrsAre out.toList ys → ys.Perm l → sortedS ys = true → Q (.ref p) s') :
    wpAny (model P w) A (call (.builtin "sorted") [.ref a]) Q E s := by
  obtain ⟨⟨es, ep, t⟩, ho, F, nd, lb, ri, le⟩ := R
  have fit : t.fits es.size = true := F.fit
  have sz : es.size = l.length := F.sz
  refine Calls.call_function_entry kind_sorted plain_sorted entry_sorted (args_sorted1 _) ?_
  unfold Builtin.«sorted»
  refine wpAny_bind (m := checkCount "sorted" 1 1 _) (wpAny_pure ?_)
  refine wpAny_bind (collect_set (A := A.in1) hh ⟨_, ho, rfl, rfl⟩ fit (by rw [sz]; exact lb) ri le fun s1 vs keep big gen1 os1 pm => ?_)
  have len : vs.length = l.length := by rw [pm.length_eq, List.length_map, Array.length_toList]; exact sz
  have shape : ∀ v ∈ vs, ∃ k u, v = Value.str k u := fun v hv => by
    obtain ⟨e, he, rfl⟩ := List.mem_map.mp (pm.mem_iff.mp hv)
    obtain ⟨⟨k, hk, _⟩, _⟩ := F.el e he
    obtain ⟨u, hu⟩ := Value.isStrOf_shape (x := k) (v := e.2) hk
    exact ⟨k, u, hu⟩
  obtain ⟨ss, are, mem⟩ := strs_of vs shape
  have pl : ss.Perm l := by
    refine (perm_of_sub nd (fun x hx => ?_) (by rw [← strsAre_len are, len]; exact Nat.le_refl _)).symm
    obtain ⟨e, he, hk⟩ := (F.mem x).mp hx
    obtain ⟨u, hu⟩ := Value.isStrOf_shape (x := x) (v := e.2) hk
    exact (mem x).mpr ⟨u, pm.mem_iff.mpr (List.mem_map.mpr ⟨e, he, hu⟩)⟩
  have line : vs.length ≤ sizeLine := by
    rw [len]
    have : scanBound ≤ sizeLine := by decide
    omega
  refine wpAny_bind (wpAny_newList ?_ line)
  have new : (s1.heap.push (seqObj "list" vs.toArray 0)).get? s1.heap.objs.size = some (seqObj "list" vs.toArray 0) := Heap.get?_push_size _ rfl
  refine wpAny_bind (wpAny_holding (wpAny_call_entry slot_list_sort ⟨_, new, rfl⟩ entry_list_sort (list_sort_treeKAny strKind_oneLt new are.keysOf (fun x y r e => keyKind_strs (by rw [← e]; exact are)) line fun st pa sa => ⟨_, rfl, ?_⟩) (args_list_sort _)))
  obtain ⟨ys, ya, yp, ysrt⟩ := sorted_out_str are pa sa
  obtain ⟨c, hc⟩ := sortedHeap_at (vs := vs) (out := (arrOf st).map (·.2)) new
  refine wpAny_pure ⟨_, rfl, q _ s1.heap.objs.size _ c ys (fun b u e => ?_) gen1 os1 big hc ya (yp.trans pl) ysrt⟩
  have e1 := keep b u e
  have lt := Heap.lt_size e1
  show (sortedHeap (s1.heap.push (seqObj "list" vs.toArray 0)) s1.heap.objs.size vs _).get? b = some u
  rw [sortedHeap_old (Nat.ne_of_lt lt) (by rw [Heap.size_push]; exact Nat.lt_succ_of_lt lt)]
  exact Heap.get?_push_of_some _ e1
end
section
variable {X : Cx}
/-- sorted(s), s a set of texts -/
def rSortS (P : Program) (w : World) : List V → Hp → VK → Prop := fun vs H Q => ∃ (a : Addr) (l : List Str), vs = [.ref a] ∧ H a = some (SetSO P w a l) ∧ l.length ≤ sizeLine ∧
  ∀ (ys : List Str) (p : Addr), ys.Perm l → l.Nodup → sortedS ys = true → H p = none → Q (.ref p) (upd H p (.lst (ys.map V.str)))
theorem cr_sortS (hc : X.calm = true) : CallR X (.builtin "sorted") (rSortS X.prog X.w) := by
  intro pins s σ H vs us Q I r h
  obtain ⟨a, l, rfl, ha, line, q⟩ := h
  have R := setSO_at I ha
  rw [Vals.ref1 r]
  obtain ⟨_, _, _, nd, _⟩ := id R
  refine sorted_S R (I.ok.hd hc) fun s' p out c ys keep gen os big hp hy py sy => ?_
  have ln : (ys.map V.str).length ≤ sizeLine := by rw [List.length_map, py.length_eq]; exact line
  have np : H p = none := I.hok.fresh big
  have J : L2.Inv X pins σ (upd H p (.lst (ys.map V.str))) { s with heap := s'.heap, gens := s'.gens, drawn := s'.drawn, toks := s'.toks } :=
    I.call (ch := []) (Un.laid keep big np) (I.hok.laid keep big ⟨ln, out.toList, c, vals_of_strs hy, hp⟩) (by rw [gen]; exact I.bare) (fun _ z => nomatch z)
  have e : s' = { s with heap := s'.heap, gens := s'.gens, drawn := s'.drawn, toks := s'.toks } := by
    cases s'; cases s; cases os; rfl
  rw [e]
  exact ⟨.ref p, _, J, rfl, q ys p py nd sy np⟩
end
/-- a set's comprehension over a list that the block leaves as it is -/
theorem scS_list {P : Program} {w : World} {K : PySem.W.Frag} {a : Addr} {xs : List V} {g : TG} {tt : TT} {te : L2.TE} {vs : List Nat} {σ : L2.St} {H1 : Hp} {D : Addr} {Qd : Hp → Prop} (Pv : Nat → Hp → Prop) (h0 : Pv 0 (upd H1 D (SetSO P w D [])))
    (hl : ∀ i H, i ≤ xs.length → Pv i H → SqL K H a xs)
    (turn : ∀ i x H, xs[i]? = some x → Pv i H → g x (wipe σ vs) H fun σ2 H2 => wipe σ2 vs = wipe σ vs ∧ tt σ2 H2 fun b H3 =>
      if b = true then te σ2 H3 fun y H4 => ∃ (k : Str) (l : List Str), y = .str k ∧ H4 D = some (SetSO P w D l) ∧ l.length + 1 < scanBound ∧ Pv (i + 1) (upd H4 D (SetSO P w D (insS l k))) else Pv (i + 1) H3)
    (fin : ∀ H, Pv xs.length H → Qd H) :
    ∃ W : Nat → Nat → Hp → Prop, (∃ m, W 0 m (upd H1 D (SetSO P w D []))) ∧ ∀ i m H, W i m H → ((Itl K a).stop i H ∧ Qd H) ∨ ((Itl K a).go i H ∧ ∃ N : Hp → Prop, (∀ H', N H' → ∃ m', m' < m ∧ W (i + 1) m' H') ∧
      ∀ x H', (Itl K a).yld i H x H' → g x (wipe σ vs) H' fun σ2 H2 => wipe σ2 vs = wipe σ vs ∧ tt σ2 H2 fun b H3 =>
        if b = true then te σ2 H3 fun y H4 => ∃ (k : Str) (l : List Str), y = .str k ∧ H4 D = some (SetSO P w D l) ∧ l.length + 1 < scanBound ∧ N (upd H4 D (SetSO P w D (insS l k))) else N H3) := by
  refine ⟨fun i m H => m + i = xs.length ∧ Pv i H, ⟨xs.length, by omega, h0⟩, fun i m H ⟨em, p⟩ => ?_⟩
  have st := hl i H (by omega) p
  cases m with
  | zero =>
    have e : i = xs.length := by omega
    subst e
    exact .inl ⟨⟨xs, st, Nat.le_refl _⟩, fin H p⟩
  | succ m =>
    have lt : i < xs.length := by omega
    refine .inr ⟨⟨xs, xs[i], st, by simp [lt]⟩, Pv (i + 1), fun H' p' => ⟨m, Nat.lt_succ_self _, by omega, p'⟩, ?_⟩
    rintro x H' ⟨rfl, y⟩
    exact turn i x _ (y xs st) p
end Mine

set_option Elab.async false
set_option linter.all false
set_option maxRecDepth 100000
set_option maxHeartbeats 4000000
/-! t[lo:hi] as a plain tuple; xs.extend(t) of a plain tuple. -/
namespace Mine
open PySem PySem.Spec PyProof.Rows L2
/-- an object that is a tuple and no more -/
def PlainO (o : Obj) : Prop := o.dict = none ∧ o.slots = #[]
def rSlF (K : PySem.W.Frag) : V → Option Int → Option Int → Hp → VK → Prop := fun x lo hi H Q => ∃ a xs, x = .ref a ∧ SqT K H a xs ∧ ¬ (HT.sIx xs.length 0 lo = 0 ∧ HT.sIx xs.length xs.length hi = xs.length) ∧
  ∀ p o, H p = none → PlainO o → Q (.ref p) (upd H p (.frz o (.tup (cutV xs lo hi))))
section
variable {X : Cx}
theorem sl_tupF : SlR X (rSlF X.K) := by
  intro pins s σ H x v vl vu lo hi sl Q I rx hs pl pu h
  obtain ⟨a, xs, rfl, hx, part, q⟩ := h
  cases rx
  obtain ⟨its, r, ht, hz⟩ := I.tuple hx
  have len : its.toArray.size = xs.length := by rw [List.size_toArray]; exact r.length.symm
  refine ⟨"tuple", _, PyProof.Rows.slot_tuple_getitem.lookup, ht.typeIs, HT.getItem_tuple_cut ht hs pl pu (by rw [len]; exact part) ?_ (by rw [len]; exact hz)⟩
  rw [len]
  have cut := (r.drop (HT.sIx xs.length 0 lo)).take (HT.sIx xs.length xs.length hi - HT.sIx xs.length 0 lo)
  refine ⟨.ref s.heap.objs.size, _, I.laid (t' := s.toks) (fun b ob e => Heap.get?_push_of_some _ e) (Nat.le_refl _) (show ObjOk X.prog X.w _ _ _ (.frz _ (.tup (cutV xs lo hi))) from ⟨Heap.get?_push_size _ rfl, Nat.le_trans (cutV_length xs lo hi) hz, _, cut, IsTup.new _ _⟩), rfl, q _ _ (I.hok.fresh (Nat.le_refl _)) ⟨rfl, rfl⟩⟩
def rExtF : V → List V → Hp → VK → Prop := fun x vs H Q => ∃ l b o xs zs, x = .ref l ∧ vs = [.ref b] ∧ H l = some (.lst xs) ∧ H b = some (.frz o (.tup zs)) ∧ PlainO o ∧ xs.length + zs.length ≤ sizeLine ∧ Q .non (upd H l (.lst (xs ++ zs)))
theorem mt_extendF : MtM X "list.extend" rExtF := by
  intro pins s σ H x vs v us Q I rx rv h
  obtain ⟨l, b, o, xs, zs, rfl, rfl, hl, hb, ⟨od, os⟩, hz, q⟩ := h
  cases rx
  obtain ⟨u, rfl, ru⟩ := rv.one
  cases ru
  obtain ⟨z, its, n, r, _, e⟩ := I.lstM hl
  obtain ⟨g, _, its2, r2, o', g', oc, n2, odat⟩ := (show ObjOk X.prog X.w H s.heap _ (.frz o (.tup zs)) from I.hok _ _ hb)
  rw [g] at g'
  cases g'
  have eo : o = { cls := .type "tuple", dict := none, data := .seq its2.toArray n2, slots := #[] } := by
    obtain ⟨c, d, da, sl⟩ := o
    simp only at od os oc odat
    rw [od, os, oc, odat]
  rw [eo] at g
  have l1 := r.length
  have l2 := r2.length
  have sum : its.toArray.size + its2.toArray.size ≤ sizeLine := by
    rw [List.size_toArray, List.size_toArray]
    omega
  have short : ¬ (!its.toArray.isEmpty && Builtin.List.listTooLong (its.toArray.size + its2.toArray.size)) = true := by
    rw [notLongL sum, Bool.and_false]
    exact Bool.false_ne_true
  refine call_meets PySem.F.slot_list_extend ⟨_, e, rfl⟩ PySem.F.entry_list_extend (PySem.F.args_list_extend_2 _ _) (AutoSeq1.list_extend_list_tuple_0 l its.toArray n b its2.toArray n2 short (by omega) (by omega)) ⟨e, g, ?_⟩
  exact ⟨.non, _, I.lset (its' := its ++ its2) hl e (by simp) (r.append r2) (by rw [List.length_append]; exact hz), rfl, q⟩
end
end Mine

set_option Elab.async false
set_option linter.all false
set_option maxRecDepth 100000
set_option maxHeartbeats 4000000
/-! dict(zip(xs, ys)) of two lists. -/
namespace Mine
open PySem PySem.Spec PyProof.Rows L2
theorem zip_kv : ∀ {ks : List Key} {ys : List V} {us ws : List Value}, Vals (ks.map kV) us → Vals ys ws → KV (ks.zip ys) (ks.zip ws)
  | [], _, _, _, _, _ => .nil
  | k :: ks, [], _, _, _, r => by
    cases r
    exact .nil
  | k :: ks, y :: ys, _, _, r, r' => by
    cases r with
    | cons _ r =>
      cases r' with
      | cons h r' => exact .cons ⟨rfl, h⟩ (zip_kv r r')
section
variable {X : Cx} {e e2 : Expr} {ta : L2.TA} {p p2 pos pos2 : Pos}
def tDictZip (K : PySem.W.Frag) (ta : L2.TA) : L2.TE := fun σ H Q => ta σ H fun vs H1 => ∃ (a b : Addr) (ks : List Key) (ys : List V), vs = [.ref a, .ref b] ∧ SqL K H1 a (ks.map kV) ∧ SqL K H1 b ys ∧ ks.length = ys.length ∧
  ∀ q, H1 q = none → Q (.ref q) (upd H1 q (.dK (mergeK [] (ks.zip ys))))
theorem pe_dictZip (hc : X.calm = true) (hg : Gl X "dict") (hm : X.mg "dict" = none) (hg2 : Gl X "zip") (hm2 : X.mg "zip" = none) (ha : L2.PA X [e, e2] ta)
    (hs : starEach [e, e2] X.env = (false, eval e X.env) :: starEach [e2] X.env := by rfl) (hpl : (backTo pos2 (starEach [e2] X.env)).any (·.1) = false := by rfl)
    (na : starEach [Expr.Call (.Name "zip" p2) [e, e2] [] pos2] X.env = (false, eval (Expr.Call (.Name "zip" p2) [e, e2] [] pos2) X.env) :: starEach [] X.env := by rfl) :
    L2.PE X (.Call (.Name "dict" p) [.Call (.Name "zip" p2) [e, e2] [] pos2] [] pos) (tDictZip X.K ta) := by
  refine ⟨fun pins s σ H Q I h => ?_⟩
  refine Call_ (ld_blt I hg hm PyProof.Rows.boot_dict (PyProof.Rows.callWith_type1 (args_cons ?_ na) na))
  refine Call_ (ld_blt I hg2 hm2 PyProof.Rows.boot_zip (PyProof.Rows.callWith_type1 (thn (ha.run pos2 pins s σ H _ I h) fun us s1 ⟨vs, H1, I1, r1, a, b, ks, ys, ex, hx, hy, len, q⟩ => ?_) hs hpl))
  subst ex
  obtain ⟨u1, u2, rfl, ra, rb⟩ := vals2 r1
  cases ra
  cases rb
  obtain ⟨its, rv, pa, za⟩ := I1.list hx
  obtain ⟨its2, rv2, pb, _⟩ := I1.list hy
  refine call_zip_2 pa.isList pb.isList fun h' hz hTI hTO h1 h2 hsz keep => args_nil ?_
  have I2 : L2.Inv X pins σ H1 { s1 with heap := h' } := I1.kept (t' := s1.toks) keep
  have l1 := rv.length
  have l2 := rv2.length
  rw [List.length_map] at l1
  have ok : PairsHave (mixKind X.prog X.w) (min its.toArray.size its2.toArray.size) (fun i k v => its.toArray[i]? = some k ∧ its2.toArray[i]? = some v) (ks.zip its2) := by
    refine ⟨?_, fun i key v ⟨e1, e2⟩ => ?_⟩
    · rw [List.length_zip, List.size_toArray, List.size_toArray, l1]
    · rw [List.getElem?_toArray] at e1 e2
      obtain ⟨k, hk⟩ : ∃ k, ks[i]? = some k := by
        have : i < ks.length := by
          rw [l1]
          exact (List.getElem?_eq_some_iff.mp e1).1
        exact ⟨ks[i], List.getElem?_eq_getElem this⟩
      refine ⟨k, by rw [List.getElem?_zip_eq_some]; exact ⟨hk, e2⟩, ?_⟩
      have : RelV (kV k) key := by
        have hk' : (ks.map kV)[i]? = some (kV k) := by rw [List.getElem?_map, hk]; rfl
        obtain ⟨u, hu, ru⟩ := rv.get hk'
        rw [e1] at hu
        cases hu
        exact ru
      exact kV_is this
  have line : min its.toArray.size its2.toArray.size ≤ sizeLine := by
    rw [List.size_toArray, ← l1]
    rw [List.length_map] at za
    omega
  refine PySem.call_dict_pairs (PairArg.zip _ _ _ _ _ a b (PySem.W.ktu_apart s1.heap.objs.size a b pa.lt pb.lt) its.toArray its2.toArray) (I1.ok.hd hc) ⟨hz, hTI, ⟨_, _, hTO⟩, h1, h2, ?_, ?_⟩ ok line fun h2 tk hd keep2 => ?_
  · exact pa.isList.at fun o e => keep _ o e
  · exact pb.isList.at fun o e => keep _ o e
  have hm' : (h'.objs.size == sysModules) = false := beq_eq_false_iff_ne.mpr (Nat.ne_of_gt I2.big)
  have kl : (mergeK [] (ks.zip ys)).length ≤ sizeLine := by
    refine Nat.le_trans (length_mergeK _ []) ?_
    rw [List.length_nil, Nat.zero_add, List.length_zip]
    rw [List.length_map] at za
    omega
  have nH : H1 h'.objs.size = none := I2.hok.fresh (Nat.le_refl _)
  have low : s1.heap.objs.size ≤ h'.objs.size := by omega
  refine ⟨.ref h'.objs.size, upd H1 h'.objs.size (.dK (mergeK [] (ks.zip ys))), I1.laid (t' := tk) (fun c o e => ?_) low (show ObjOk X.prog X.w _ _ _ (.dK (mergeK [] (ks.zip ys))) from ⟨kl, hm', merged [] _, KV.merge (zip_kv rv rv2) .nil, hd⟩), rfl, q _ nH⟩
  have lt := Heap.lt_size e
  refine keep2 c o (fun z => ?_) (keep c o e)
  simp only [List.mem_cons, List.not_mem_nil, or_false] at z
  rcases z with rfl | rfl | rfl | rfl
  · exact Nat.not_lt.mpr (Nat.le_add_right _ _) lt
  · exact Nat.not_lt.mpr (Nat.le_add_right _ _) lt
  · exact Nat.lt_irrefl _ lt
  · exact Nat.not_lt.mpr (Nat.le_add_right _ _) lt
end
end Mine

set_option Elab.async false
set_option linter.all false
set_option maxRecDepth 100000
set_option maxHeartbeats 4000000
/-! sorted(d) of a dict with any number of keys, all texts. -/
namespace Mine
open PySem PySem.Spec PyProof.Rows L2
section
variable {X : Cx}
theorem call_sortedDA (hc : X.calm = true) : CallR X (.builtin "sorted") (fun xs H Q => ∃ (a : Addr) (kvs : List (Key × V)) (ks : List Str), xs = [.ref a] ∧ Rd H a (.dK kvs) ∧ kvs.map (·.1) = ks.map Sum.inr ∧
    ∀ ys p, ys.Perm ks → sortedS ys = true → H p = none → Q (.ref p) (upd H p (.lst (ys.map V.str)))) := by
  intro pins s σ H xs us Q I r q
  obtain ⟨a, kvs, ks, rfl, hd, keys, q⟩ := q
  obtain ⟨u, rfl, rx⟩ := vals1 r
  cases rx
  obtain ⟨sz, low, vs, rel, dd⟩ := dk_rd I.hok hd
  obtain ⟨ep, at_⟩ := dd.dictAt
  have vk : vs.map (·.1) = ks.map Sum.inr := rel.keys.symm.trans keys
  have vl : vs.length = ks.length := by simpa using congrArg List.length vk
  have line : vs.length ≤ sizeLine := by
    have := rel.length
    omega
  refine Calls.call_function_entry PyProof.Rows.kind_sorted PyProof.Rows.plain_sorted PyProof.Rows.entry_sorted (PyProof.Rows.args_sorted1 _) ?_
  unfold Builtin.«sorted»
  refine wpAny_bind (m := checkCount "sorted" 1 1 _) (wpAny_pure ?_)
  refine wpAny_bind (PySem.W.kdu_collect (A := X.A.in1) (PySem.W.kdl_dict (knd := mixKind X.prog X.w) (kvs := vs) (ep := ep) low) (I.ok.hd hc) at_ line fun h1 t1 acc keep told => ?_)
  have al : acc.toList.length = ks.length := by rw [Array.length_toList, told.1, vl]
  have are : StrsAre acc.toList ks := strs_at al fun j v e => by
    obtain ⟨k, x, e1, e2⟩ := told.2 j v (by rw [← Array.getElem?_toList]; exact e)
    have e3 : (ks.map (Sum.inr : Str → Key))[j]? = some k := by rw [← vk, List.getElem?_map, e1]; rfl
    rw [List.getElem?_map] at e3
    obtain ⟨y, hy, rfl⟩ := Option.map_eq_some_iff.mp e3
    obtain ⟨t, ev⟩ := Value.isStrOf_shape (x := y) (v := v) e2
    exact ⟨y, t, hy, ev⟩
  have I1 : L2.Inv X pins σ H { s with heap := h1, toks := t1 } := I.kept keep
  have al2 : acc.toList.length ≤ sizeLine := by omega
  refine wpAny_bind (wpAny_newList ?_ al2)
  have new : (h1.push (seqObj "list" acc.toList.toArray 0)).get? h1.objs.size = some (seqObj "list" acc.toList.toArray 0) := Heap.get?_push_size _ rfl
  show wpAny _ _ _ _ _ { s with heap := h1.push (seqObj "list" acc.toList.toArray 0), toks := t1 }
  refine wpAny_bind (wpAny_holding (wpAny_call_entry PyProof.Rows.slot_list_sort ⟨_, new, rfl⟩ PyProof.Rows.entry_list_sort
    (list_sort_treeKAny strKind_oneLt (s := { s with heap := h1.push (seqObj "list" acc.toList.toArray 0), toks := t1 }) new are.keysOf (fun x y z e => keyKind_strs (by rw [← e]; exact are)) al2 fun st pa sa => ⟨_, rfl, ?_⟩) (PyProof.Rows.args_list_sort _)))
  obtain ⟨ys, ya, yp, ysrt⟩ := sorted_out_str are pa sa
  obtain ⟨c, hcc⟩ := PyProof.Rows.sortedHeap_at (vs := acc.toList) (out := (arrOf st).map (·.2)) new
  have yl : (ys.map V.str).length ≤ sizeLine := by
    rw [List.length_map, yp.length_eq]
    omega
  refine wpAny_pure ⟨_, rfl, .ref h1.objs.size, upd H h1.objs.size (.lst (ys.map V.str)), I1.laid (t' := t1) (fun b u e => ?_) (Nat.le_refl _)
    (show ObjOk X.prog X.w _ _ _ (.lst (ys.map V.str)) from ⟨yl, ((arrOf st).map (·.2)).toList, c, vals_of_strs ya, by rw [Array.toArray_toList]; exact hcc⟩), rfl, q ys _ yp ysrt (I1.hok.fresh (Nat.le_refl _))⟩
  have lt : b < h1.objs.size := Heap.lt_size e
  rw [PyProof.Rows.sortedHeap_old (Nat.ne_of_lt lt) (by rw [Heap.size_push]; exact Nat.lt_succ_of_lt lt)]
  exact Heap.get?_push_of_some _ e
end
end Mine

set_option Elab.async false
set_option linter.all false
set_option maxRecDepth 100000
set_option maxHeartbeats 4000000
/-! set(xs), xs a list of texts: a set that can be walked. -/
namespace Mine
open PySem PySem.Spec PyProof.Rows L2 PySem.Froz
/-- a set just made -/
abbrev bareS (w : World) : Obj := { cls := .type "set", dict := none, data := .set #[] 0 (.fresh 0 0 (!w.params.followText "set-order")) }
theorem bareS_at {P : Program} {w : World} {hp : Heap} {a : Addr} (e : hp.get? a = some (bareS w)) : SetS P w hp a [] := by
  refine ⟨(#[], 0, .fresh 0 0 (!w.params.followText "set-order")), e, TxOk.nil (by rfl), List.nodup_nil, by decide, List.Pairwise.nil, ?_⟩
  show _ ∨ (!w.params.followText "set-order") = true
  cases w.params.followText "set-order"
  · exact .inr rfl
  · exact .inl rfl
/-- the set at a has just the texts of l -/
def HasS (P : Program) (w : World) (hp : Heap) (a : Addr) (l : List Str) : Prop := ∃ ks, SetS P w hp a ks ∧ (∀ x, x ∈ ks ↔ x ∈ l) ∧ ks.length ≤ l.length
section
variable {P : Program} {w : World} {A : Around} {E : Value → Shared → Prop} {s : Shared}
theorem fillS {J : Addr} {fp wr : List Addr} {Gn : Array GenState → Array GenState → Prop} {n : Nat} {Pv : Nat → Value → Prop} {Sv : Nat → Shared → Prop} {R : Result → Shared → Prop} (W : WalksS P w A.in1 J fp wr Gn n Pv Sv) (a : Addr) (out : a ∉ fp) (l : List Str) (len : n = l.length)
    (room : l.length + 1 < scanBound) (val : ∀ i v, Pv i v → ∃ k t, l[i]? = some k ∧ v = .str k t) : ∀ (left i : Nat) (s : Shared), n = i + left → Sv i s → HasS P w s.heap a (l.take i) →
      (∀ s', Moved (a :: wr) Gn s s' → HasS P w s'.heap a l → R (.ok (.ret .none)) s') → codeAny (model P w) A (.builtin "set.update.loop" ⟨[.ref a, .ref J], []⟩) R s := by
  have outw : a ∉ wr := fun z => out (W.sub _ z)
  have more : ∀ b ∈ wr, b ∈ a :: wr := fun b z => List.mem_cons_of_mem _ z
  intro left
  induction left with
  | zero =>
    intro i s e sv ⟨ks, st, mem, kl⟩ q
    refine codeAny_builtin F.entry_set_update_loop ?_
    rw [Around.under_plainId F.plain_set_update_loop _]
    refine wpAny_bind (W.done s _ _ (by rwa [show n = i by omega]) fun s' mv => ?_)
    rw [List.take_of_length_le (by omega)] at mem kl
    exact wpAny_pure (q s' (mv.mono more) ⟨ks, st.at' fun o z => mv.heap a o outw z, mem, kl⟩)
  | succ left ih =>
    intro i s e sv ⟨ks, st, mem, kl⟩ q
    refine codeAny_builtin F.entry_set_update_loop ?_
    rw [Around.under_plainId F.plain_set_update_loop _]
    refine wpAny_bind (W.item i s _ _ (by omega) sv fun v s' pv sv' mv => ?_)
    obtain ⟨k, t, hk, rfl⟩ := val i v pv
    have tk : l.take (i + 1) = l.take i ++ [k] := by rw [List.take_add_one, hk]; rfl
    have kl' : ks.length ≤ i := by
      rw [List.length_take] at kl
      omega
    refine wpAny_bind (wpAny_holding ?_)
    unfold setAdd
    refine wpAny_holding (wpAny_bind ((strKind P w).pyHash (is_str k t) ?_))
    refine addHashed_S (s := { s' with toks := s'.toks + 1 }) (st.at' fun o z => mv.heap a o outw z) (by omega) fun _ hp keep st2 => ?_
    refine wpAny_pure ⟨plainId_quiet F.plain_set_update_loop _, ih (i + 1) _ (by omega) (W.frame _ s' _ _ sv' (Nat.le_succ _) fun b hb o z => keep b o (fun y => out (y ▸ hb)) z) ⟨insS ks k, st2, fun x => ?_, ?_⟩ fun s2 mv2 h2 => q s2 (Moved.trans W.gtrans ((mv.mono more).then_heap (Nat.le_succ _) fun b o nb z => keep b o (fun y => nb (y ▸ List.mem_cons_self ..)) z) mv2) h2⟩
    · rw [mem_insS, mem, tk, List.mem_append, List.mem_singleton]
      exact or_comm
    · have := insS_len (l := ks) (k := k)
      rw [List.length_take]
      have : i < l.length := by omega
      omega
set_option maxHeartbeats 8000000 in
theorem call_setS {b : Addr} {its : Array Value} {l : List Str} {Q : Value → Shared → Prop} (hh : A.handled = none) (at_ : s.heap.IsList b its) (are : StrsAre its.toList l) (room : l.length + 1 < scanBound)
    (q : ∀ (hp : Heap) (tk : Nat), HasS P w hp s.heap.objs.size l → (∀ c o, s.heap.get? c = some o → hp.get? c = some o) → Q (.ref s.heap.objs.size) { s with heap := hp, toks := tk }) : wpAny (model P w) A (call (.type "set") [.ref b]) Q E s := by
  have num : its.size = l.length := by
    rw [← Array.length_toList]
    exact strsAre_len are
  have ⟨cc, rest, mro⟩ := F.called_set.mro
  have made := F.called_set.made
  have sub := F.called_set.sub
  refine wpAny_call (codeAny_of_tree (wpAny_pure ⟨Code.quiet_builtin _ (by decide +kernel), codeAny_builtin F.entry_type_call ?_⟩))
  rw [Around.under_plain (weight_type_call_type "set" [.ref b] []) rfl]
  have nt := F.called_set.notType
  have cr := F.called_set.canCreate
  have tc := F.typeCall_set_1 (.ref b)
  repeat (any_goals (first | assumption | wp_step))
  refine codeAny_mono (L2.code_set_led1 (.ref b) (E := E) (Q₁ := fun v s1 => v = .ref s.heap.objs.size ∧ s1 = { s with heap := s.heap.push (bareS w) }) ⟨rfl, rfl⟩) fun r s1 h1 => ?_
  cases r with
  | error e => exact h1
  | ok f1 =>
    cases f1 with
    | ret v =>
      obtain ⟨rfl, rfl⟩ := h1
      have new : (s.heap.push (bareS w)).get? s.heap.objs.size = some (bareS w) := Heap.get?_push_size _ rfl
      have ty : Shared.TypeIs { s with heap := s.heap.push (bareS w) } (.ref s.heap.objs.size) "set" := ⟨_, new, rfl⟩
      have li := F.called_set.init.lookup
      have bi := F.called_set.init.bind (.ref s.heap.objs.size)
      repeat (any_goals (first | assumption | wp_step))
      refine codeAny_mono (codeAny_call_builtin (R := wants (fun v s2 => v = .none ∧ ∃ hp tk, s2 = { s with heap := hp, toks := tk } ∧ HasS P w hp s.heap.objs.size l ∧ (∀ c o, s.heap.get? c = some o → hp.get? c = some o)) E) F.called_set.init.plain F.entry_set_init (check_set_init_1 ty ?_)) fun r2 s2 h2 => ?_
      · obtain ⟨⟨oc, od, oa, os⟩, he, hc, m, hd⟩ := at_
        simp only at hc hd
        subst hc hd
        have he1 : (s.heap.push (bareS w)).get? b = some { cls := .type "list", dict := od, data := .seq its m, slots := os } := Heap.get?_push_of_some _ he
        have sl1 := F.sub_list_set
        have sl2 := F.sub_list_frozenset
        have nd : (Value.type "list" == Value.type "dict") = false := by decide
        have il : (s.heap.push (bareS w)).IsList b its := ⟨_, he1, rfl, m, rfl⟩
        unfold Builtin.«set.__init__» noKeywords Builtin.Frozenset.updateFrom
        generalize hI : pyIter = I0
        wp_walk
        subst hI
        refine wpAny_pyIter_list il (wpAny_bind (wpAny_runValue ?_))
        have lt := Heap.lt_size he
        have sz : (s.heap.push (bareS w)).objs.size = s.heap.objs.size + 1 := Heap.size_push ..
        refine fillS ((Walks.list (by simp [hh]) _ b (Nat.ne_of_lt (by rw [Heap.size_push]; exact Nat.lt_succ_of_lt lt)) its).toS) s.heap.objs.size (fun z => ?_) l num room (fun i v hv => ?_) its.size 0 _ (by omega) ⟨⟨_, Heap.get?_push_size _ rfl, rfl, rfl⟩, il.push _⟩ ⟨[], bareS_at (Heap.get?_push_of_some _ new), fun x => by simp, Nat.zero_le _⟩ fun s2 mv h2 => ?_
        · rw [Heap.size_push] at z
          simp only [List.mem_cons, List.not_mem_nil, or_false] at z
          rcases z with z | z
          · exact absurd z (Nat.ne_of_lt (Nat.lt_succ_self _))
          · exact absurd z (Nat.ne_of_gt lt)
        · have hi : i < l.length := by
            rw [← num]
            exact (Array.getElem?_eq_some_iff.mp hv).1
          obtain ⟨t, e⟩ := SS.strs_at are i v (by rw [Array.getElem?_toList]; exact hv)
          exact ⟨l[i], t, List.getElem?_eq_getElem hi, by rw [e, List.getD_eq_getElem?_getD, List.getElem?_eq_getElem hi] <;> rfl⟩
        · obtain ⟨hp2, g2, d2, t2, o2⟩ := s2
          have eg : g2 = s.gens := mv.gens
          have ed : d2 = s.drawn := mv.drawn
          have eo : o2 = s.os := mv.os
          subst eg ed eo
          refine wpAny_pure (wpAny_pure ⟨rfl, hp2, t2, rfl, h2, fun c o e => ?_⟩)
          have ltc := Heap.lt_size e
          refine mv.heap c o (fun z => ?_) (Heap.get?_push_of_some _ (Heap.get?_push_of_some _ e))
          rw [Heap.size_push] at z
          simp only [List.mem_cons, List.not_mem_nil, or_false] at z
          rcases z with z | z
          · exact absurd z (Nat.ne_of_lt ltc)
          · exact absurd z (Nat.ne_of_lt (Nat.lt_succ_of_lt ltc))
      · cases r2 with
        | error e => exact h2
        | ok f2 =>
          cases f2 with
          | ret v =>
            obtain ⟨rfl, hp, tk, rfl, has, keep⟩ := h2
            repeat (any_goals (first | assumption | wp_step))
            exact q _ _ has keep
          | _ => exact h2.elim
    | _ => exact h1.elim
end
section
variable {X : Cx}
/-- set(xs), xs a list of texts -/
def rSetL (P : Program) (w : World) (K : PySem.W.Frag) : List V → Hp → VK → Prop := fun vs H Q => ∃ (b : Addr) (l : List Str), vs = [.ref b] ∧ SqL K H b (l.map V.str) ∧ l.length + 1 < scanBound ∧
  ∀ (p : Addr) (ks : List Str), H p = none → (∀ x, x ∈ ks ↔ x ∈ l) → ks.length ≤ l.length → Q (.ref p) (upd H p (SetSO P w p ks))
theorem cr_setL (hc : X.calm = true) : CallR X (.type "set") (rSetL X.prog X.w X.K) := by
  intro pins s σ H vs us Q I r h
  obtain ⟨b, l, rfl, hb, room, q⟩ := h
  obtain ⟨u, rfl, rv⟩ := vals1 r
  cases (show u = Value.ref b from rv)
  obtain ⟨its, rs, pl, hz⟩ := I.list hb
  refine call_setS (P := X.prog) (w := X.w) (I.ok.hd hc) pl.isList (l := l) (by simpa using L2.strsAre_of rs) room fun hp tk ⟨ks, st, mem, kl⟩ keep => ?_
  exact ⟨.ref _, _, I.laid (t' := tk) keep (Nat.le_refl _) (setSO_ok st), rfl, q _ ks (I.hok.fresh (Nat.le_refl _)) mem kl⟩
end
end Mine

set_option Elab.async false
set_option linter.all false
set_option maxRecDepth 100000
set_option maxHeartbeats 4000000
/-! A def called by keywords alone; repr of deeper data. -/
namespace Mine
open PySem PySem.Spec PyProof.Rows L2
section
variable {X : Cx} {k : Nat} {f : Addr} {fd : FuncData} {ps ks : List Str} {sp : L2.Sp} {x : Str} {p pos : Pos} {kws : List Keyword} {tk : TA} {g : List Value → List Value} {gV : List V → List V}
def tKw (sp : L2.Sp) (gV : List V → List V) (tk : TA) : TE := fun σ H Q => tk σ H fun zs H1 => sp (gV zs) H1 Q E0
/-- f(k1 = .., k2 = ..) -/
theorem pe_kw (F : FnOk X.prog X.w X.K X.mg X.base CX0 k f fd ps sp) (hr : Room k X.A) (hg : Gl X x) (hm : X.mg x = some (.ref f)) (hk : PySem.W.keepIn X.K (.ref f) = true) (hb : ∀ (s : Shared) (ws : List Value), ws.length = ks.length → BindsTo s fd ⟨[], ks.zip ws⟩ (ps.zip (g ws)))
    (hv : ∀ zs ws, Vals zs ws → Vals (gV zs) (g ws)) (hl : ∀ zs, (gV zs).length = ps.length → zs.length = ks.length) (hkw : PK X kws tk) (hall : (backToKw pos (keywordEach kws X.env)).all (·.1.isSome) = true := by rfl) (hks : (backToKw pos (keywordEach kws X.env)).filterMap (·.1) = ks := by rfl)
    (hdb : (x == ("__debug__" : Str)) = false := by decide) (hpl : ((backTo pos (starEach [] X.env)).any (·.1) || (backToKw pos (keywordEach kws X.env)).any (·.1.isNone)) = false := by rfl) :
    PE X (.Call (.Name x p) [] kws pos) (tKw sp gV tk) := by
  refine ⟨fun pins s σ H Q I h => ?_⟩
  refine wpAny_Call_Name_kw (ld_glob I hg hm ?_ hdb)
  refine PySem.W.callWith_KW0 (first := []) (h₀ := X.base) I.ok.mod.kin hk hall ?_ hpl
  refine thn (hkw.run pos pins s σ H _ I h) fun ws s1 ⟨zs, H1, I1, rz, q⟩ => ⟨I1.kIn, ?_⟩
  rw [hks]
  have r2 := hv zs ws rz
  have l2 : ws.length = ks.length := rz.length.symm.trans (hl zs (F.len _ _ _ _ q))
  show wpAny _ _ (call (.ref f) [] (ks.zip ws)) _ _ _
  refine wpAny_call (codeAny_mono (F.run X.A X.stack s1 H1 ⟨[], ks.zip ws⟩ (g ws) (gV zs) Q E0 hr I1.env0 (hb s1 ws l2) r2 q) fun r s' hq => ?_)
  cases r with
  | error e => exact pass0 pins σ H1 s1 e s' I1 hq
  | ok fl =>
    cases fl with
    | ret u => exact I1.after hq
    | next => exact False.elim hq
    | brk => exact False.elim hq
    | cont => exact False.elim hq
end
/-- repr of a list or a tuple of any depth -/
def rReprQ (m : Nat) (K : PySem.W.Frag) : List V → Hp → VK → Prop := fun xs H Q => ∃ (a : Addr) (vs : List V) (ds : List PyData), xs = [.ref a] ∧ DpAll K H vs ds ∧
  ((SqL K H a vs ∧ Shows sizeLine m (.list ds) ∧ Q (.str (PyData.shown (.list ds))) H) ∨ (SqT K H a vs ∧ Shows sizeLine m (.tuple ds) ∧ Q (.str (PyData.shown (.tuple ds))) H))
theorem call_reprQ {X : Cx} {m : Nat} (hg : X.A.guards = some []) (hu : X.A.units + m + 20 < cLine) : CallR X (.builtin "repr") (rReprQ m X.K) := by
  intro pins s σ H xs us Q I r h
  obtain ⟨a, vs, ds, rfl, r', h⟩ := h
  obtain ⟨u, rfl, rv⟩ := vals1 r
  cases (show u = Value.ref a from rv)
  rcases h with ⟨e, S, q⟩ | ⟨e, S, q⟩
  · obtain ⟨its, rvs, ⟨o, n, he, hc, hdn, hd⟩, _⟩ := I.list e
    have hz' : (listText (PyData.shownAll ds)).length ≤ sizeLine := by simpa only [PyData.shown] using S.len
    have rks := dps_rks I ds _ its r' rvs (by simpa [PyData.showable] using S.ok) fun t ht => Nat.le_trans (listText_mem_le ht) hz'
    obtain ⟨⟨as, ra⟩, bs, mm, k⟩ := rks
    have rd : Reads s.heap (.ref a) (.list ds) (a :: as) := .list he hc hd ra
    have out : a ∉ bs := not_mem_of_deeper rd (by simp only [PyData.depth]; omega) mm
    have dep : PyData.depthAll ds + 1 ≤ m := by simpa only [PyData.depth] using S.dep
    have fin : ∀ h' u tk, (∀ b o, s.heap.get? b = some o → h'.get? b = some o) → L2.EP X pins σ Q (.str (PyData.shown (.list ds)) u) { s with heap := h', toks := tk } := fun h' u tk kp => ⟨.str _, H, I.kept kp, ⟨_, rfl⟩, q⟩
    refine call_repr_slot (by omega) ⟨_, he, hc⟩ PySem.F.slot_list_repr.toG ?_
    cases its with
    | nil =>
      cases ra
      refine call_list_repr_empty ⟨_, he, hc⟩ he hd ⟨_, _, rfl, ?_⟩
      have e0 : PyData.shown (.list []) = ("[]" : Str) := by simp only [PyData.shown, PyData.shownAll, listText_nil]
      rw [← e0]
      exact fin _ _ _ fun _ _ z => z
    | cons x l =>
      refine call_list_reprK he hc hd out (by simpa using k.length_eq) (fun i y e => k.item i y (by simpa using e)) (A := X.A.in1) hg (fun b _ => Clear.nil b) (by show X.A.units + 1 + _ < _; omega) (fun _ _ z => z) (fun h' u tk kp => ⟨_, _, rfl, ?_⟩) hz'
      have e0 : PyData.shown (.list ds) = listText (PyData.shownAll ds) := by simp only [PyData.shown]
      rw [← e0]
      exact fin h' u tk kp
  · obtain ⟨its, rvs, ⟨o, he, hc, n, hd⟩, _⟩ := I.tuple e
    have hz' : (tupleText (PyData.shownAll ds)).length ≤ sizeLine := by simpa only [PyData.shown] using S.len
    have rks := dps_rks I ds _ its r' rvs (by simpa [PyData.showable] using S.ok) fun t ht => Nat.le_trans (tupleText_mem_le ht) hz'
    obtain ⟨⟨as, ra⟩, bs, mm, k⟩ := rks
    have rd : Reads s.heap (.ref a) (.tuple ds) as := .tuple he hc hd ra
    have out : a ∉ bs := not_mem_of_deeper rd (by simp only [PyData.depth]; omega) mm
    have dep : PyData.depthAll ds + 1 ≤ m := by simpa only [PyData.depth] using S.dep
    have fin : ∀ h' u tk, (∀ b o, s.heap.get? b = some o → h'.get? b = some o) → L2.EP X pins σ Q (.str (PyData.shown (.tuple ds)) u) { s with heap := h', toks := tk } := fun h' u tk kp => ⟨.str _, H, I.kept kp, ⟨_, rfl⟩, q⟩
    refine call_repr_slot (by omega) ⟨_, he, hc⟩ PySem.F.slot_tuple_repr ?_
    refine call_tuple_reprK he hc hd out (by simpa using k) (A := X.A.in1) hg (fun b _ => Clear.nil b) (by show X.A.units + 1 + _ < _; omega) (fun _ _ z => z) (fun h' u tk kp => ⟨_, _, rfl, ?_⟩) hz'
    have e0 : PyData.shown (.tuple ds) = tupleText (PyData.shownAll ds) := by simp only [PyData.shown]
    rw [← e0]
    exact fin h' u tk kp
end Mine

set_option Elab.async false
set_option linter.all false
set_option maxRecDepth 100000
set_option maxHeartbeats 4000000
/-! sum(xs, start) of a list of lists. -/
namespace Mine
open PySem PySem.Spec PyProof.Rows L2
theorem args_sumL (a b : Value) : argsOk "sum" ⟨[a, b], []⟩ := by unfold argsOk; kernel_rfl
section
variable {P : Program} {w : World} {A : Around} {E : Value → Shared → Prop} {s : Shared}
theorem add_any {a b : Addr} {xs ys : Array Value} {Q : Value → Shared → Prop} (ha : s.heap.IsList a xs) (hb : s.heap.IsList b ys) (sz : xs.size + ys.size ≤ sizeLine)
    (q : Q (.ref s.heap.objs.size) { s with heap := s.heap.push { cls := .type "list", data := .seq (xs ++ ys) } }) : wpAny (model P w) A (binaryOp .Add (.ref a) (.ref b)) Q E s := by
  obtain ⟨⟨c1, d1, t1, l1⟩, h1, k1, n1, e1⟩ := ha
  obtain ⟨⟨c2, d2, t2, l2⟩, h2, k2, n2, e2⟩ := hb
  simp only at k1 e1 k2 e2
  subst k1 e1 k2 e2
  exact concat_meets ⟨_, h1, rfl⟩ ⟨_, h2, rfl⟩ noFill_list_add seq_list_add PySem.F.slot_list_add PySem.F.entry_list_add (PySem.F.args_list_add_2 _ _) (list_addW a b xs ys n1 n2 d1 d2 l1 l2 sz) ⟨h1, h2, q⟩
theorem sum_loopL {J : Addr} {fp wr : List Addr} {n : Nat} {Pv : Nat → Value → Prop} {Sv : Nat → Heap → Prop} {R : Result → Shared → Prop} (W : Walks P w A.in1 J fp wr n Pv Sv) (ad : Nat → Addr) (arr acc : Nat → Array Value) (val : ∀ i v, Pv i v → v = .ref (ad i))
    (ac : ∀ i, i < n → acc (i + 1) = acc i ++ arr i) (fit : ∀ i, i < n → (acc i).size + (arr i).size ≤ sizeLine) (S : Addr) (out : S ∉ fp) (exi : ∀ i h, Sv i h → ∀ b ∈ wr, b < h.objs.size) :
    ∀ (left i : Nat) (s : Shared) (tot : Addr) (c : Nat), n = i + left → Sv i s.heap → s.heap.get? S = some { cls := .type "list", dict := none, data := .seq #[.ref tot] c, slots := #[] } → s.heap.IsList tot (acc i) → tot ∉ wr → tot ≠ S → (∀ j, j < n → s.heap.IsList (ad j) (arr j) ∧ ad j ∉ wr ∧ ad j ≠ S) →
      (∀ h' tk r, (∀ b o, b ∉ wr → b ≠ S → s.heap.get? b = some o → h'.get? b = some o) → (left = 0 → r = tot) → (0 < left → S < r ∧ h'.get? r = some { cls := .type "list", data := .seq (acc n) }) → R (.ok (.ret (.ref r))) { s with heap := h', toks := tk }) →
      codeAny (model P w) A (.builtin "sum.loop" ⟨[.ref J, .ref S, rawInt 2, rawInt 0], []⟩) R s := by
  have outw : S ∉ wr := fun h => out (W.sub _ h)
  intro left
  induction left with
  | zero =>
    intro i s tot c e sv hS ht _ _ _ q
    have hin : i = n := by omega
    subst hin
    refine codeAny_builtin PySem.F.entry_sum_loop ?_
    rw [Around.under_plainId PySem.F.plain_sum_loop _]
    show wpAny _ A.in1 (seqItems? (.ref S) >>= _) _ _ s
    refine wpAny_bind (wpAny_seqItems hS rfl ?_)
    show wpAny _ A.in1 (Sem.tryCatch (pyNext (.ref J)) _ >>= _) _ _ s
    refine wpAny_bind (wpAny_tryCatch (W.done s _ _ sv fun h' tk hk => ?_))
    exact wpAny_pure (q h' tk tot (fun b o hb _ z => hk b o hb z) (fun _ => rfl) (fun z => absurd z (Nat.lt_irrefl _)))
  | succ left ih =>
    intro i s tot c e sv hS ht nt nS its q
    refine codeAny_builtin PySem.F.entry_sum_loop ?_
    rw [Around.under_plainId PySem.F.plain_sum_loop _]
    show wpAny _ A.in1 (seqItems? (.ref S) >>= _) _ _ s
    refine wpAny_bind (wpAny_seqItems hS rfl ?_)
    show wpAny _ A.in1 (Sem.tryCatch (pyNext (.ref J)) _ >>= _) _ _ s
    refine wpAny_bind (wpAny_tryCatch (W.item i s _ _ (by omega) sv fun v h1 tk pv sv1 k1 => ?_))
    have := val i v pv
    subst this
    have hS1 := k1 S _ outw hS
    have keepL : ∀ {b : Addr} {xs : Array Value}, b ∉ wr → s.heap.IsList b xs → h1.IsList b xs := fun hb ⟨o, z, r⟩ => ⟨o, k1 _ _ hb z, r⟩
    obtain ⟨li, nw, nSi⟩ := its i (by omega)
    show wpAny _ A.in1 ((holding [Value.ref (ad i)] (binaryOp .Add (.ref tot) (.ref (ad i)))).attempt >>= _) _ _ _
    refine wpAny_bind (wpAny_attempt (wpAny_holding (add_any (keepL nt ht) (keepL nw li) (fit i (by omega)) ?_)))
    show wpAny _ A.in1 (updateSeq S (fun _ => #[.ref h1.objs.size]) >>= _) _ _ _
    have hS2 := Heap.get?_push_of_some { cls := .type "list", data := .seq (acc i ++ arr i) } hS1
    have lS := Heap.lt_size hS1
    refine wpAny_bind ?_
    refine wpAny_updateSeq hS2 rfl ?_
    have hS3 := Heap.get?_update_self (Obj.mapSeq fun _ => #[Value.ref h1.objs.size]) hS2 rfl
    refine wpAny_bind (wpAny_letGo ?_)
    refine wpAny_bind ?_
    have other : ∀ {b : Addr} {o : Obj}, b ≠ S → h1.get? b = some o → ((((h1.push { cls := .type "list", data := .seq (acc i ++ arr i) }).update S (Obj.mapSeq fun _ => #[Value.ref h1.objs.size])).update S (Obj.mapSeq fun _ => #[Value.ref h1.objs.size])).get? b = some o) := fun hb z =>
      (Heap.get?_update_other _ _ (Ne.symm hb)).trans ((Heap.get?_update_other _ _ (Ne.symm hb)).trans (Heap.get?_push_of_some _ z))
    have nr : h1.objs.size ∉ wr := fun z => Nat.lt_irrefl _ (exi _ _ sv1 _ z)
    have nrS : h1.objs.size ≠ S := Nat.ne_of_gt lS
    have new : ((((h1.push { cls := .type "list", data := .seq (acc i ++ arr i) }).update S (Obj.mapSeq fun _ => #[Value.ref h1.objs.size])).update S (Obj.mapSeq fun _ => #[Value.ref h1.objs.size])).get? h1.objs.size = some { cls := .type "list", data := .seq (acc (i + 1)) }) := by
      rw [ac i (by omega)]
      exact (Heap.get?_update_other _ _ (Ne.symm nrS)).trans ((Heap.get?_update_other _ _ (Ne.symm nrS)).trans (Heap.get?_push_size _ rfl))
    refine wpAny_updateSeq hS3 rfl (wpAny_pure ⟨plainId_quiet PySem.F.plain_sum_loop _, ih (i + 1) _ h1.objs.size _ (by omega) (W.frame _ _ _ sv1 fun b hb o z => other (fun y => out (y ▸ hb)) z) (Heap.get?_update_self _ hS3 rfl) ⟨_, new, rfl, _, rfl⟩ nr nrS (fun j hj => ?_) fun h' tk' r kp z0 z1 => ?_⟩)
    · obtain ⟨⟨o, z, y⟩, a1, a2⟩ := its j hj
      exact ⟨⟨o, other a2 (k1 _ _ a1 z), y⟩, a1, a2⟩
    · refine q h' tk' r (fun b o hb hbS z => kp b o hb hbS (other hbS (k1 _ _ hb z))) (fun z => nomatch z) fun _ => ?_
      cases left with
      | zero =>
        have := z0 rfl
        subst this
        have e' : i + 1 = n := by omega
        rw [← e']
        exact ⟨lS, kp _ _ nr nrS new⟩
      | succ left => exact z1 (Nat.succ_pos _)
theorem call_sumL {a b : Addr} {its : Array Value} (n : Nat) (ad : Nat → Addr) (arr acc : Nat → Array Value) {Q : Value → Shared → Prop} (hh : A.handled = none) (ha : s.heap.IsList a its) (hn : its.size = n) (hv : ∀ (i : Nat) (v : Value), its[i]? = some v → v = .ref (ad i)) (hb : s.heap.IsList b (acc 0))
    (ac : ∀ i, i < n → acc (i + 1) = acc i ++ arr i) (fit : ∀ i, i < n → (acc i).size + (arr i).size ≤ sizeLine) (hl : ∀ j, j < n → s.heap.IsList (ad j) (arr j))
    (q0 : ∀ h' tk, n = 0 → (∀ b o, s.heap.get? b = some o → h'.get? b = some o) → Q (.ref b) { s with heap := h', toks := tk })
    (q1 : ∀ h' tk r, (∀ b o, s.heap.get? b = some o → h'.get? b = some o) → s.heap.objs.size ≤ r → h'.get? r = some { cls := .type "list", data := .seq (acc n) } → Q (.ref r) { s with heap := h', toks := tk }) :
    wpAny (model P w) A (call (.builtin "sum") [.ref a, .ref b]) Q E s := by
  refine call_function_tree PySem.F.kind_sum PySem.F.plain_sum PySem.F.entry_sum (args_sumL _ _) ?_
  unfold Builtin.«sum»
  simp only [List.length_cons, List.length_nil]
  rw [if_neg (by decide)]
  refine wpAny_bind (wpAny_of_eq (show Builtin.Builtins.bindParams "sum" ["start"] 0 ⟨[Value.ref b], []⟩ = pure [some (Value.ref b)] from rfl) ?_)
  refine wpAny_bind (wpAny_pyIter_list ha ?_)
  refine wpAny_bind (wpAny_pure ?_)
  simp only [List.forIn_cons, List.forIn_nil]
  obtain ⟨ob, eb, cb, mb, db⟩ := hb
  have eb1 := Heap.get?_push_of_some { cls := .type "list_iterator", data := .fields #[.ref a, .int 0 0] } eb
  refine wpAny_bind (wpAny_bind (wpAny_bind (wpAny_isInstance (T := "list") (b := false) ⟨_, eb1, cb⟩ PySem.F.sub_list_str ?_)))
  simp only [Bool.false_eq_true, if_false]
  refine wpAny_pure (wpAny_bind (wpAny_bind (wpAny_isInstance (T := "list") (b := false) ⟨_, eb1, cb⟩ PySem.F.sub_list_bytes ?_)))
  simp only [Bool.false_eq_true, if_false]
  refine wpAny_pure (wpAny_bind (wpAny_bind (wpAny_isInstance (T := "list") (b := false) ⟨_, eb1, cb⟩ PySem.F.sub_list_bytearray ?_)))
  simp only [Bool.false_eq_true, if_false]
  refine wpAny_pure (wpAny_pure ?_)
  refine wpAny_bind (wpAny_newObj_type ?_)
  obtain ⟨oa, ea, ra⟩ := id ha
  have la := Heap.lt_size ea
  have lb := Heap.lt_size eb
  have z1 : (s.heap.push { cls := .type "list_iterator", data := .fields #[.ref a, .int 0 0] }).objs.size = s.heap.objs.size + 1 := Heap.size_push ..
  have old : ∀ {c : Addr} {o : Obj}, s.heap.get? c = some o → ((s.heap.push { cls := .type "list_iterator", data := .fields #[.ref a, .int 0 0] }).push { cls := .type "list", data := .seq #[.ref b] }).get? c = some o := fun z => Heap.get?_push_of_some _ (Heap.get?_push_of_some _ z)
  have ltS : ∀ {c : Addr} {o : Obj}, s.heap.get? c = some o → c ∉ [s.heap.objs.size] ∧ c ≠ s.heap.objs.size + 1 := fun z => by
    have := Heap.lt_size z
    refine ⟨fun y => ?_, Nat.ne_of_lt (Nat.lt_succ_of_lt this)⟩
    rw [List.mem_singleton.mp y] at this
    exact Nat.lt_irrefl _ this
  refine wpAny_pure ⟨plainId_quiet PySem.F.plain_sum_loop _, ?_⟩
  have W := Walks.list (prog := P) (w := w) (A := A.in1) (by simp [hh]) s.heap.objs.size a (Nat.ne_of_lt la) its
  rw [hn] at W
  have eS : ((s.heap.push { cls := .type "list_iterator", data := .fields #[.ref a, .int 0 0] }).push { cls := .type "list", data := .seq #[.ref b] }).get? (s.heap.push { cls := .type "list_iterator", data := .fields #[.ref a, .int 0 0] }).objs.size = some { cls := .type "list", dict := none, data := .seq #[.ref b] 0, slots := #[] } := Heap.get?_push_size _ rfl
  have eI : ((s.heap.push { cls := .type "list_iterator", data := .fields #[.ref a, .int 0 0] }).push { cls := .type "list", data := .seq #[.ref b] }).get? s.heap.objs.size = some { cls := .type "list_iterator", data := .fields #[.ref a, .int 0 0] } := Heap.get?_push_of_some _ (Heap.get?_push_size _ rfl)
  generalize (s.heap.push { cls := .type "list_iterator", data := .fields #[.ref a, .int 0 0] }).objs.size = S at eS z1
  generalize hG : ((s.heap.push { cls := .type "list_iterator", data := .fields #[.ref a, .int 0 0] }).push { cls := .type "list", data := .seq #[.ref b] }) = G at old eS eI
  refine sum_loopL W ad arr acc hv ac fit S ?_ ?_ n 0 { s with heap := G } b 0 (by omega) ⟨⟨_, eI, rfl, rfl⟩, ⟨_, old ea, ra⟩⟩ eS ⟨_, old eb, cb, mb, db⟩ (ltS eb).1 (by rw [z1]; exact (ltS eb).2) (fun j hj => ?_) fun h' tk r kp y0 y1 => ?_
  · intro z
    simp only [List.mem_cons, List.not_mem_nil, or_false] at z
    rcases z with z | z
    · rw [z1] at z
      exact absurd z (Nat.succ_ne_self _)
    · rw [z1] at z
      exact absurd z.symm (Nat.ne_of_lt (Nat.lt_succ_of_lt la))
  · rintro i h ⟨⟨o, e, _⟩, _⟩ c hc
    rw [List.mem_singleton.mp hc]
    exact Heap.lt_size e
  · obtain ⟨o, z, y⟩ := hl j hj
    exact ⟨⟨o, old z, y⟩, (ltS z).1, by rw [z1]; exact (ltS z).2⟩
  · have keep : ∀ c o, s.heap.get? c = some o → h'.get? c = some o := fun c o z => kp c o (ltS z).1 (by rw [z1]; exact (ltS z).2) (old z)
    cases n with
    | zero =>
      have := y0 rfl
      subst this
      exact q0 h' tk rfl keep
    | succ n =>
      obtain ⟨l1, l2⟩ := y1 (Nat.succ_pos _)
      refine q1 h' tk r keep ?_ l2
      rw [z1] at l1
      exact Nat.le_of_lt (Nat.lt_of_succ_lt l1)
end
section
variable {X : Cx}
theorem paired_get {α β : Type} {R : α → β → Prop} : ∀ {as : List α} {bs : List β} {i : Nat} {a : α}, Paired R as bs → as[i]? = some a → ∃ b, bs[i]? = some b ∧ R a b
  | _, _, 0, a, .cons h _, e => ⟨_, rfl, by cases e; exact h⟩
  | _, _, i + 1, a, .cons _ r, e => paired_get (i := i) r e
theorem take_flat {α : Type} : ∀ (ls : List (List α)) (i : Nat), i < ls.length → (ls.take (i + 1)).flatten = (ls.take i).flatten ++ ls.getD i []
  | [], _, h => absurd h (Nat.not_lt_zero _)
  | l :: ls, 0, _ => by simp
  | l :: ls, i + 1, h => by
    have := take_flat ls i (Nat.lt_of_succ_lt_succ h)
    show (l :: ls.take (i + 1)).flatten = (l :: ls.take i).flatten ++ ls.getD i []
    rw [List.flatten_cons, List.flatten_cons, this, List.append_assoc]
/-- the values of some tracked lists -/
theorem lists_vals {pins : List (Addr × Obj)} {σ : L2.St} {H : Hp} {s : Shared} (I : L2.Inv X pins σ H s) : ∀ {ps : List Addr} {xss : List (List V)}, Paired (fun p xs => H p = some (.lst xs)) ps xss → ∃ vss : List (List Value), Paired (fun p vs => s.heap.IsList p (List.toArray vs)) ps vss ∧ Paired Vals xss vss
  | _, _, .nil => ⟨[], .nil, .nil⟩
  | _, _, .cons h r => by
    obtain ⟨vss, a, b⟩ := lists_vals I r
    obtain ⟨its, rv, pl, _⟩ := I.list (SqL.of h)
    exact ⟨its :: vss, .cons pl.isList a, .cons rv b⟩
theorem vals_flat : ∀ {xss : List (List V)} {vss : List (List Value)}, Paired Vals xss vss → Vals xss.flatten vss.flatten
  | _, _, .nil => .nil
  | _, _, .cons h r => by
    rw [List.flatten_cons, List.flatten_cons]
    exact h.append (vals_flat r)
/-- sum(xs, start), xs a list of tracked lists, start an empty one -/
def rSumL (K : PySem.W.Frag) : List V → Hp → VK → Prop := fun vs H Q => ∃ (a b : Addr) (ps : List Addr) (xss : List (List V)), vs = [.ref a, .ref b] ∧ SqL K H a (ps.map V.ref) ∧ H b = some (.lst []) ∧ Paired (fun p xs => H p = some (.lst xs)) ps xss ∧ xss.flatten.length ≤ sizeLine ∧
  (ps = [] → Q (.ref b) H) ∧ ∀ r, H r = none → Q (.ref r) (upd H r (.lst xss.flatten))
theorem cr_sumL (hc : X.calm = true) : CallR X (.builtin "sum") (rSumL X.K) := by
  intro pins s σ H vs us Q I r h
  obtain ⟨a, b, ps, xss, rfl, ha, hb, hp, fit, q0, q1⟩ := h
  obtain ⟨u1, u2, rfl, ra, rb⟩ := vals2 r
  cases ra
  cases rb
  obtain ⟨its, rv, pa, _⟩ := I.list ha
  obtain ⟨itb, rvb, pb, _⟩ := I.list (SqL.of hb)
  cases rvb
  obtain ⟨vss, pl, pv⟩ := lists_vals I hp
  have l1 := rv.length
  rw [List.length_map] at l1
  have l2 := pl.length
  have vf := vals_flat pv
  have lf := vf.length
  refine call_sumL (P := X.prog) (w := X.w) (A := X.A) ps.length (fun i => ps.getD i 0) (fun i => (vss.getD i []).toArray) (fun i => (vss.take i).flatten.toArray) (I.ok.hd hc) pa.isList (by rw [List.size_toArray]; exact l1.symm) (fun i v hv => ?_) (by simpa using pb.isList) (fun i hi => ?_) (fun i hi => ?_) (fun j hj => ?_) (fun h' tk hn kp => ?_) fun h' tk r' kp big hr => ?_
  · rw [List.getElem?_toArray] at hv
    have il : i < ps.length := by
      rw [l1]
      exact (List.getElem?_eq_some_iff.mp hv).1
    obtain ⟨u, hu, ru⟩ := rv.get (i := i) (x := .ref ps[i]) (by rw [List.getElem?_map, List.getElem?_eq_getElem il]; rfl)
    rw [hv] at hu
    cases hu
    have : v = Value.ref ps[i] := ru
    rw [this, List.getD_eq_getElem?_getD, List.getElem?_eq_getElem il]
    rfl
  · have il : i < vss.length := by omega
    rw [take_flat vss i il]
    simp
  · have il : i < vss.length := by omega
    have e : vss.flatten = (vss.take (i + 1)).flatten ++ (vss.drop (i + 1)).flatten := by rw [← List.flatten_append, List.take_append_drop]
    have e2 := take_flat vss i il
    have n1 := congrArg List.length e
    rw [e2, List.length_append, List.length_append] at n1
    rw [List.size_toArray, List.size_toArray]
    omega
  · obtain ⟨vs, e, r⟩ := paired_get pl (List.getElem?_eq_getElem hj)
    rw [List.getD_eq_getElem?_getD, List.getElem?_eq_getElem hj, List.getD_eq_getElem?_getD, e]
    exact r
  · exact ⟨.ref b, H, I.kept kp, rfl, q0 (List.length_eq_zero_iff.mp hn)⟩
  · have e : (vss.take ps.length).flatten = vss.flatten := by rw [List.take_of_length_le (by omega)]
    rw [e] at hr
    exact ⟨.ref r', _, I.laid (t' := tk) kp big (show ObjOk X.prog X.w _ _ _ (.lst xss.flatten) from ⟨fit, vss.flatten, 0, vf, hr⟩), rfl, q1 r' (I.hok.fresh big)⟩
end
end Mine

set_option Elab.async false
set_option linter.all false
set_option maxRecDepth 100000
set_option maxHeartbeats 4000000
/-! a != b of instances whose class has == of its own and != of object. -/
namespace Mine
open PySem PySem.Spec PyProof.Rows L2 PySem.W Builtin
section
variable {prog : Program} {w : World} {A : Around} {E : Value → Shared → Prop} {s : Shared} {K : PySem.W.Frag} {x C f : Addr} {ox : Obj} {od : Option Obj} {b : Value}
theorem ifBoundB {M : Model} {name : Str} {id T : String} {args : List Value} {Q : Option Value → Shared → Prop} (X : K.In s.heap) (I : InstAt s.heap x ox C od) (hs : findIn K (.ref C) name = some (some (.builtin id))) (S : Slot T name id)
    (h : wpAny M A (call (.builtin id) (.ref x :: args)) (fun v => Q (some v)) E s) : wpAny M A (callSpecialIfBound? (.ref x) name args) Q E s := by
  simp only [callSpecialIfBound?, bindSpecialIfBound?]
  refine wpAny_holding (wpAny_bind (wpAny_bind (wpAny_bind (I.type.here ((looks_findIn X hs).here ?_)))))
  refine wpAny_bind (wpAny_askSetting (wpAny_ite ?_))
  have fin : wpAny M A (call (.builtin id) ([.ref x] ++ args) >>= fun v => pure (some v)) Q E s := wpAny_bind (wpAny_mono h (fun v s' h' => wpAny_pure h') fun _ _ h' => h')
  simp only [S.bind]
  split
  · exact wpAny_bind (wpAny_pure (wpAny_pure fin))
  · exact wpAny_tryCatch (wpAny_bind (wpAny_pure (wpAny_pure fin)))
theorem ne_call {Q : Value → Shared → Prop} (hu : A.units + 1 < cLine) (X : K.In s.heap) (I : InstAt s.heap x ox C od) (hm : mroIn K C (.type "object") = some true) (he : findIn K (.ref C) "__eq__" = some (some (.ref f))) (hf : isFn K (.ref f) = true)
    (h : wpAny (model prog w) A.in1 (call (.ref f) [.ref x, b]) (fun v s' => ∃ r, v = .bool r ∧ Q (.bool (!r)) s') E s) : wpAny (model prog w) A (call (.builtin "object.__ne__") [.ref x, b]) Q E s := by
  refine wpAny_call (codeAny_call_builtin PySem.F.slot_range_iterator_ne.plain PySem.F.cmpEntry_ne ?_)
  obtain ⟨hh, g, dr, t, os⟩ := s
  have L0 := I.type (M := model prog w)
  have L1 := looks_mroIn (M := model prog w) X hm
  simp only [checkBuiltinCall, PySem.F.cmpKind_ne, PySem.F.cmpSplit_ne]
  refine wpAny_bind ?_
  unfold isInstance
  have hu1 : A.in1.units < cLine := hu
  repeat (first
    | with_reducible refine wpAny_cRoomFor hu1 ?_
    | (with_reducible refine wpAny_bind (m := callSpecialIfBound? (.ref x) (Str.ofString "__eq__") [b]) ?_
       refine ifBound_K X I he hf (wpAny_mono h (fun v s' hv => ?_) fun _ _ e => e)
       obtain ⟨r, rfl, hq⟩ := hv
       refine wpAny_bind (m := truthy (.bool r)) (wpAny_truthy_bool ?_)
       exact wpAny_pure hq)
    | lk)
theorem cmpN {h₀ : Heap} {L : Addr} {m : Str → Option Value} {tb : Value} {Q : Value → Shared → Prop} (hu : A.units + 1 < cLine) (F : Fr h₀ L s.heap m) (X₀ : K.In h₀) (I : InstAt s.heap x ox C od) (hb : Looks (model prog w) s.heap (typeOf b) tb) (hn : notFirst K C tb = true)
    (hne : findIn K (.ref C) "__ne__" = some (some (.builtin "object.__ne__"))) (hm : mroIn K C (.type "object") = some true) (he : findIn K (.ref C) "__eq__" = some (some (.ref f))) (hf : isFn K (.ref f) = true)
    (h : wpAny (model prog w) A.in1 (call (.ref f) [.ref x, b]) (fun v s' => ∃ r, v = .bool r ∧ Q (.bool (!r)) s') E s) : wpAny (model prog w) A (richCompare .NotEq (.ref x) b) Q E s := by
  have X := X₀.keeps F.keep
  have one : wpAny (model prog w) A (tryCompare (.ref x) (cmpInfo .NotEq).2.1 b) (fun r s' => ∃ v, r = some v ∧ Q v s') E s := by
    unfold tryCompare
    refine wpAny_bind (ifBoundB X I hne PySem.F.slot_range_iterator_ne (ne_call hu X I hm he hf (wpAny_mono h (fun v s' hv => ?_) fun _ _ e => e)))
    obtain ⟨r, rfl, hq⟩ := hv
    exact ⟨r, rfl, wpAny_pure ⟨_, rfl, hq⟩⟩
  unfold richCompare
  simp only [oneThing_ref]
  refine wpAny_holding (wpAny_bind (wpAny_cRoomFor (by omega) ?_))
  refine wpAny_bind (I.type.here (wpAny_bind (hb.here ?_)))
  split
  · rename_i q
    have e : subIn K tb (.ref C) = some false := by
      rcases Bool.or_eq_true_iff.mp hn with e | e
      · rw [beq_iff_eq.mp e] at q; simp at q
      · exact beq_iff_eq.mp e
    refine wpAny_bind ((looks_subIn X e).here ?_)
    simp only [Bool.false_eq_true, if_false]
    refine wpAny_bind (wpAny_mono one (fun r s' z => ?_) fun _ _ e => e)
    obtain ⟨v, rfl, hq⟩ := z
    exact wpAny_pure hq
  · refine wpAny_bind (wpAny_pure ?_)
    simp only [Bool.false_eq_true, if_false]
    refine wpAny_bind (wpAny_mono one (fun r s' z => ?_) fun _ _ e => e)
    obtain ⟨v, rfl, hq⟩ := z
    exact wpAny_pure hq
end
section
variable {X : Cx} {n : Nat} {C f : Addr} {fd : FuncData} {ps : List Str} {R : Addr → Addr → Hp → Prop}
def rNeIns (C : Addr) (R : Addr → Addr → Hp → Prop) : R2 := fun x y H Q => DIns C R x y H ∧ ∀ H', Ext H H' → Q (.bl false) H'
theorem op_neIns (F : FnOk X.prog X.w X.K X.mg X.base CX0 n f fd ps (spEq R)) (hs : findIn X.K (.ref C) "__eq__" = some (some (.ref f))) (hf : isFn X.K (.ref f) = true) (hne : findIn X.K (.ref C) "__ne__" = some (some (.builtin "object.__ne__"))) (hm : mroIn X.K C (.type "object") = some true)
    (hb : Binds X.K fd ps []) (hr : Room (n + 1) X.A) : OpR X (compareOp .NotEq) (rNeIns C R) := by
  intro pins s σ H x y v u Q I rx ry hq
  obtain ⟨⟨a, b, dx, dy, fs, gs, rfl, rfl, ha, hb', hr'⟩, q⟩ := hq
  cases rx
  cases ry
  obtain ⟨mA, J, _⟩ := ins_get I.hok ha
  obtain ⟨mB, J', _⟩ := ins_get I.hok hb'
  obtain ⟨od, J, _⟩ := J.look
  obtain ⟨od', J', _⟩ := J'.look
  obtain ⟨m, hF⟩ := I.fr
  have hr1 : Room n X.A.in1 := Room.in1 hr
  show wpAny (model X.prog X.w) X.A (richCompare .NotEq _ _) (EP X pins σ Q) X.xe s
  refine cmpN (tb := .ref C) (by have := hr.un; omega) hF I.ok.mod.kin J J'.type (by simp [PySem.W.notFirst]) hne hm hs hf ?_
  have hsp : spEq R [.ref a, .ref b] H (fun v H' => v = .bl true ∧ Ext H H') E0 := ⟨a, b, rfl, hr', fun H' e => ⟨rfl, e⟩⟩
  have e0 : Env0 X.prog X.w X.K X.mg X.base X.A.in1 X.stack s H := by
    have e := I.env0
    exact ⟨e.frames, e.mod, e.bs, e.bsz, e.funs, e.frf, e.hok, e.bare⟩
  have hl := F.len _ _ _ _ hsp
  have r2 : Vals [V.ref a, V.ref b] [Value.ref a, Value.ref b] := .cons rfl (.cons rfl .nil)
  refine wpAny_call (codeAny_mono (F.run X.A.in1 X.stack s H ⟨[.ref a, .ref b], []⟩ [.ref a, .ref b] [.ref a, .ref b] _ E0 hr1 e0 (by
    have := hb s [.ref a, .ref b] I.kIn (by simpa using hl)
    simpa using this) r2 hsp) fun r s' hq => ?_)
  cases r with
  | error e => exact pass0 pins σ H s e s' I hq
  | ok fl =>
    cases fl with
    | ret w =>
      obtain ⟨z, H', I', rz, ez, ex⟩ := I.after hq
      subst ez
      cases rz
      exact ⟨true, rfl, .bl false, H', I', rfl, q H' ex⟩
    | next => exact False.elim hq
    | brk => exact False.elim hq
    | cont => exact False.elim hq
end
end Mine

set_option Elab.async false
set_option linter.all false
set_option maxRecDepth 100000
set_option maxHeartbeats 4000000
/-! o.m(k = ..) of a method with one parameter. -/
namespace Mine
open PySem PySem.Spec PyProof.Rows L2
section
variable {X : Cx} {k : Nat} {f C : Addr} {fd : FuncData} {ps : List Str} {sp : L2.Sp} {m k1 : Str} {pos apos : Pos} {o : Expr} {kws : List Keyword} {ta : TE} {tk : TA}
def tMethK1 (C : Addr) (m : Str) (sp : L2.Sp) (ta : TE) (tk : TA) : TE := fun σ H Q => ta σ H fun x H1 => ∃ a dx fs, x = .ref a ∧ H1 a = some (.ins C dx fs) ∧ fs.lookup m = none ∧ tk σ H1 fun zs H2 => ∃ u, zs = [u] ∧ sp [x, u] H2 Q E0
theorem pe_methK1 {pl : Sem Bool} (he : PE X o ta) (c : Cls X.K C) (hm : Meth X.K C m f) (F : FnOk X.prog X.w X.K X.mg X.base CX0 k f fd ps sp) (hr : Room k X.A) (hps : ps.length = 2)
    (hb : ∀ (s : Shared) (a u : Value), BindsTo s fd ⟨[a], [(k1, u)]⟩ (ps.zip [a, u])) (hkw : PK X kws tk)
    (hall : (backToKw pos (keywordEach kws X.env)).all (·.1.isSome) = true := by rfl) (hks : (backToKw pos (keywordEach kws X.env)).filterMap (·.1) = [k1] := by rfl)
    (hpl : ((backTo pos (starEach [] X.env)).any (·.1) || (backToKw pos (keywordEach kws X.env)).any (·.1.isNone)) = false := by rfl)
    (ht : eval (.Call (.Attribute o m apos) [] kws pos) X.env = (do
      let ov ← eval o X.env
      standAt apos.atName
      let (f, first) ← holding [ov] (getMethod ov m pl)
      callWith pos f first (backTo pos (starEach [] X.env)) (backToKw pos (keywordEach kws X.env))) := by rfl) :
    PE X (.Call (.Attribute o m apos) [] kws pos) (tMethK1 C m sp ta tk) := by
  refine ⟨fun pins s σ H Q I h => ?_⟩
  refine PySem.W.methodCall_KW (pl := pl) (thn (he.run pins s σ H _ I h) fun u s1 ⟨x, H1, I1, rx, a, dx, fs, ex, ea, l, q⟩ => ?_) ht
  subst ex
  obtain rfl : u = Value.ref a := rx
  refine getmeth_ok I1 ea c hm l ?_
  refine PySem.W.callWith_KW0 (first := [.ref a]) (h₀ := X.base) I.ok.mod.kin hm.kp hall ?_ hpl
  refine thn (hkw.run pos pins s1 σ H1 _ I1 q) fun ws s2 ⟨zs, H2, I2, rz, uu, ez, q2⟩ => ⟨I2.kIn, ?_⟩
  subst ez
  obtain ⟨w1, ew, r1⟩ := vals1 rz
  subst ew
  rw [hks]
  show wpAny _ _ (call (.ref f) [.ref a] [(k1, w1)]) _ _ _
  refine wpAny_call (codeAny_mono (F.run X.A X.stack s2 H2 ⟨[.ref a], [(k1, w1)]⟩ [.ref a, w1] [.ref a, uu] Q E0 hr I2.env0 (hb s2 (.ref a) w1) (.cons rfl (.cons r1 .nil)) q2) fun r s' hq => ?_)
  cases r with
  | error e => exact pass0 pins σ H2 s2 e s' I2 hq
  | ok fl =>
    cases fl with
    | ret u => exact I2.after hq
    | next => exact False.elim hq
    | brk => exact False.elim hq
    | cont => exact False.elim hq
end
end Mine

set_option Elab.async false
set_option linter.all false
set_option maxRecDepth 100000
set_option maxHeartbeats 4000000
/-! tuple(zip(xs, ys)) of two lists. -/
namespace Mine
open PySem PySem.Spec PyProof.Rows L2
theorem zip_nolen : typeLookup (.type "zip") "__len__" = pure none := by rw [typeLookup_type, builtinLookup_eq_fast]; kernel_rfl
theorem zip_nohint : typeLookup (.type "zip") "__length_hint__" = pure none := by rw [typeLookup_type, builtinLookup_eq_fast]; kernel_rfl
/-- what a zip has given so far -/
structure Gave (h0 h : Heap) (n0 : Nat) (ex : List Addr) (xs ys : Array Value) (ts : List Addr) : Prop where
  prs : ∀ (j : Nat) (t : Addr), ts[j]? = some t → ∃ x y, xs[j]? = some x ∧ ys[j]? = some y ∧ IsPair h t x y
  low : ∀ t ∈ ts, n0 ≤ t ∧ t < h.objs.size ∧ t ∉ ex
  nd : ts.Nodup
  kp : ∀ c o, c ∉ ex → h0.get? c = some o → h.get? c = some o
theorem Gave.keep {h0 h h' : Heap} {n0 : Nat} {ex : List Addr} {xs ys : Array Value} {ts : List Addr} (g : Gave h0 h n0 ex xs ys ts) (k : ∀ c o, c ∉ ex → h.get? c = some o → h'.get? c = some o) : Gave h0 h' n0 ex xs ys ts where
  prs j t e := by
    obtain ⟨x, y, a, b, c⟩ := g.prs j t e
    exact ⟨x, y, a, b, k _ _ (g.low t (List.mem_of_getElem? e)).2.2 c⟩
  low t ht := by
    obtain ⟨j, e⟩ := List.mem_iff_getElem?.mp ht
    obtain ⟨x, y, a, b, c⟩ := g.prs j t e
    exact ⟨(g.low t ht).1, Heap.lt_size (k _ _ (g.low t ht).2.2 c), (g.low t ht).2.2⟩
  nd := g.nd
  kp c o hc e := k c o hc (g.kp c o hc e)
theorem Gave.snoc {h0 h h' : Heap} {n0 : Nat} {ex : List Addr} {xs ys : Array Value} {ts : List Addr} {x y : Value} {t : Addr} (g : Gave h0 h n0 ex xs ys ts) (k : ∀ c o, c ∉ ex → h.get? c = some o → h'.get? c = some o) (hx : xs[ts.length]? = some x) (hy : ys[ts.length]? = some y) (ht : IsPair h' t x y) (low : n0 ≤ t) (out : t ∉ ex) (new : h.objs.size ≤ t) : Gave h0 h' n0 ex xs ys (ts ++ [t]) where
  prs j u e := by
    rw [List.getElem?_append] at e
    split at e
    · exact (g.keep k).prs j u e
    · rename_i h1
      have : j - ts.length = 0 := by
        cases e2 : j - ts.length with
        | zero => rfl
        | succ m => rw [e2] at e; cases e
      rw [this] at e
      cases e
      have ej : j = ts.length := by omega
      subst ej
      exact ⟨x, y, hx, hy, ht⟩
  low u hu := by
    rcases List.mem_append.mp hu with hu | hu
    · exact (g.keep k).low u hu
    · rw [List.mem_singleton.mp hu]
      exact ⟨low, Heap.lt_size ht, out⟩
  nd := by
    rw [List.nodup_append]
    refine ⟨g.nd, by simp, fun a ha b hb e => ?_⟩
    rw [List.mem_singleton.mp hb] at e
    subst e
    exact Nat.lt_irrefl _ (Nat.lt_of_lt_of_le (g.low _ ha).2.1 new)
  kp := (g.keep k).kp
section
variable {prog : Program} {w : World} {A : Around} {E : Value → Shared → Prop} {R : Result → Shared → Prop}
theorem extend_zip {z TI TO i1 i2 l1 l2 S : Addr} {xs ys : Array Value} {h0 : Heap} {n0 : Nat} (D : ZipApart z TI TO i1 i2 l1 l2) (hh : A.handled = none) (same : xs.size = ys.size) (fit : xs.size ≤ sizeLine) (hS : S ∉ [z, TI, TO, i1, i2, l1, l2]) (res : Value) :
    ∀ (k i : Nat) (s : Shared) (ts : List Addr) (c : Nat), xs.size - i = k → i ≤ xs.size → ts.length = i → n0 ≤ s.heap.objs.size → Gave h0 s.heap n0 [z, TO, i1, i2, S] xs ys ts →
      (IsZip s.heap z TI TO .none ∨ ∃ T f oT, IsZipHeld s.heap z TI TO T f ∧ T ∉ [z, TO, i1, i2, S] ∧ s.heap.get? T = some oT) → IsPair s.heap TI (.ref i1) (.ref i2) → (∃ a b, IsPair s.heap TO a b) → s.heap.IsListIter i1 l1 i → s.heap.IsListIter i2 l2 i → s.heap.IsList l1 xs → s.heap.IsList l2 ys →
      s.heap.get? S = some { cls := .type "list", dict := none, data := .seq (ts.map Value.ref).toArray c, slots := #[] } →
      (∀ (h' : Heap) (us : List Addr) (c' : Nat), us.length = xs.size → Gave h0 h' n0 [z, TO, i1, i2, S] xs ys us → h'.get? S = some { cls := .type "list", dict := none, data := .seq (us.map Value.ref).toArray c', slots := #[] } → R (.ok (.ret res)) { s with heap := h' }) →
      codeAny (model prog w) A (.builtin "list.extend.loop" ⟨[.ref S, .ref z, res], []⟩) R s := by
  simp only [List.mem_cons, List.not_mem_nil, or_false, not_or] at hS
  obtain ⟨hS1, hS2, hS3, hS4, hS5, hS6, hS7⟩ := hS
  have off : ∀ {h h' : Heap}, (∀ c o, c ≠ z → c ≠ TO → c ≠ i1 → c ≠ i2 → h.get? c = some o → h'.get? c = some o) → ∀ c o, c ∉ [z, TO, i1, i2, S] → h.get? c = some o → h'.get? c = some o := fun kp c o hc e => by
    simp only [List.mem_cons, List.not_mem_nil, or_false, not_or] at hc
    exact kp c o hc.1 hc.2.1 hc.2.2.1 hc.2.2.2.1 e
  intro k
  induction k with
  | zero =>
    intro i s ts c hk hi hl hn g hz hTI hTO h1 h2 hl1 hl2 eS hR
    have hin : i = xs.size := by omega
    obtain ⟨a, b, hTO⟩ := hTO
    have end1 : xs[i]? = none ∨ ys[i]? = none := .inl (Array.getElem?_eq_none (by omega))
    have fin : ∀ h', (∀ c o, c ≠ z → c ≠ TO → c ≠ i1 → c ≠ i2 → s.heap.get? c = some o → h'.get? c = some o) → R (.ok (.ret res)) { s with heap := h' } := fun h' kp =>
      hR h' ts c (by omega) (g.keep (off kp)) (kp _ _ hS1 hS3 hS4 hS5 eS)
    refine codeAny_builtin F.entry_extend_loop ?_
    rw [Around.under_plainId F.plain_extend_loop _]
    show wpAny _ A.in1 (pyNext (.ref z) >>= _) _ _ s
    rcases hz with hz | ⟨T, f, oT, hz, _, hT⟩
    · exact wpAny_bind (wpAny_pyNext_zip_end hh D hz hTI hTO h1 h2 hl1 hl2 end1 fun h' kp => wpAny_pure (fin h' kp))
    · exact wpAny_bind (wpAny_pyNext_zip_end_held hh D hz hT hTI h1 h2 hl1 hl2 end1 fun h' kp => wpAny_pure (fin h' fun c o c1 c2 c3 c4 e => kp c o c1 c3 c4 e))
  | succ k ih =>
    intro i s ts c hk hi hl hn g hz hTI hTO h1 h2 hl1 hl2 eS hR
    have hlt : i < xs.size := by omega
    obtain ⟨a, b, hTO⟩ := hTO
    obtain ⟨x, hx⟩ : ∃ x, xs[i]? = some x := ⟨_, Array.getElem?_eq_getElem hlt⟩
    obtain ⟨y, hy⟩ : ∃ y, ys[i]? = some y := ⟨_, Array.getElem?_eq_getElem (by omega)⟩
    refine codeAny_builtin F.entry_extend_loop ?_
    rw [Around.under_plainId F.plain_extend_loop _]
    show wpAny _ A.in1 (pyNext (.ref z) >>= _) _ _ s
    have nS : S < s.heap.objs.size := Heap.lt_size eS
    have nz : z < s.heap.objs.size := by rcases hz with hz | ⟨_, _, _, hz, _, _⟩ <;> exact Heap.lt_size hz
    have nTO : TO < s.heap.objs.size := Heap.lt_size hTO
    have ni1 : i1 < s.heap.objs.size := by obtain ⟨_, e, _⟩ := id h1; exact Heap.lt_size e
    have ni2 : i2 < s.heap.objs.size := by obtain ⟨_, e, _⟩ := id h2; exact Heap.lt_size e
    have tS : s.heap.objs.size ≠ S := Nat.ne_of_gt nS
    have tout : s.heap.objs.size ∉ [z, TO, i1, i2, S] := by
      simp only [List.mem_cons, List.not_mem_nil, or_false, not_or]
      exact ⟨Nat.ne_of_gt nz, Nat.ne_of_gt nTO, Nat.ne_of_gt ni1, Nat.ne_of_gt ni2, tS⟩
    have ea : ((ts ++ [s.heap.objs.size]).map Value.ref).toArray = (ts.map Value.ref).toArray.push (.ref s.heap.objs.size) := by simp
    have sa : (ts.map Value.ref).toArray.size = i := by simp [hl]
    rcases hz with hz | ⟨T, f, oT, hz, nT, hT⟩
    · refine wpAny_bind (wpAny_pyNext_zip_item D hz hTI hTO h1 h2 hl1 hl2 hx hy fun h' z' TO' h1' h2' hp hsz kp => ?_)
      have hz2 : ∃ T f oT, IsZipHeld h' z TI TO T f ∧ T ∉ [z, TO, i1, i2, S] ∧ h'.get? T = some oT := ⟨_, false, _, z', tout, hp⟩
      have hTO2 : ∃ a b, IsPair h' TO a b := ⟨_, _, TO'⟩
      have eS' := kp _ _ hS1 hS3 hS4 hS5 eS
      show wpAny _ A.in1 (updateSeq S (·.push (.ref s.heap.objs.size)) >>= _) _ _ _
      have upk : ∀ c o, c ≠ S → h'.get? c = some o → (h'.update S (Obj.mapSeq (·.push (.ref s.heap.objs.size)))).get? c = some o := fun c o hc e => (Heap.get?_update_other _ _ (Ne.symm hc)).trans e
      have kp2 : ∀ c o, c ∉ [z, TO, i1, i2, S] → s.heap.get? c = some o → (h'.update S (Obj.mapSeq (·.push (.ref s.heap.objs.size)))).get? c = some o := fun c o hc e => upk c o (fun q => hc (by rw [q]; simp)) (off kp c o hc e)
      have hx' : xs[ts.length]? = some x := by rw [hl]; exact hx
      have hy' : ys[ts.length]? = some y := by rw [hl]; exact hy
      obtain ⟨T2, f2, oT2, q1, q2, q3⟩ := hz2
      obtain ⟨a2, b2, hTO2⟩ := hTO2
      refine wpAny_bind ?_
      refine wpAny_updateSeq eS' rfl (wpAny_pure ⟨plainId_quiet F.plain_extend_loop _, ih (i + 1) _ (ts ++ [s.heap.objs.size]) _ (by omega) hlt (by rw [List.length_append, List.length_singleton]; omega) (Nat.le_trans hn (Nat.le_of_lt (Heap.lt_size (upk _ _ tS hp)))) (g.snoc kp2 hx' hy' (upk _ _ tS hp) hn tout (Nat.le_refl _)) (.inr ⟨T2, f2, oT2, upk _ _ (Ne.symm hS1) q1, q2, upk _ _ (fun q => q2 (by rw [q]; simp)) q3⟩)
        (upk _ _ (Ne.symm hS2) (kp _ _ D.TIz D.TITO D.TIi1 D.TIi2 hTI)) ⟨a2, b2, upk _ _ (Ne.symm hS3) hTO2⟩ (h1'.at fun o e => upk _ _ (Ne.symm hS4) e) (h2'.at fun o e => upk _ _ (Ne.symm hS5) e) (hl1.at fun o e => upk _ _ (Ne.symm hS6) (kp _ _ D.l1z D.l1TO D.l1i1 D.l1i2 e)) (hl2.at fun o e => upk _ _ (Ne.symm hS7) (kp _ _ D.l2z D.l2TO D.l2i1 D.l2i2 e)) (by rw [ea]; exact Heap.get?_update_self _ eS' rfl) fun h'' us c' r1 r2 r3 => hR h'' us c' r1 r2 r3⟩) (by omega) (by rw [Array.size_push]; omega)
    · refine wpAny_bind (wpAny_pyNext_zip_item_held D hz hT hTI h1 h2 hl1 hl2 hx hy fun h' z' h1' h2' hp hsz kp0 => ?_)
      have kp : ∀ c o, c ≠ z → c ≠ TO → c ≠ i1 → c ≠ i2 → s.heap.get? c = some o → h'.get? c = some o := fun c o c1 _ c3 c4 e => kp0 c o c1 c3 c4 e
      have hTO2 : ∃ a b, IsPair h' TO a b := ⟨_, _, kp0 _ _ D.TOz D.TOi1 D.TOi2 hTO⟩
      have hz2 : ∃ T f oT, IsZipHeld h' z TI TO T f ∧ T ∉ [z, TO, i1, i2, S] ∧ h'.get? T = some oT := ⟨T, true, oT, z', nT, off kp _ _ nT hT⟩
      have eS' := kp _ _ hS1 hS3 hS4 hS5 eS
      show wpAny _ A.in1 (updateSeq S (·.push (.ref s.heap.objs.size)) >>= _) _ _ _
      have upk : ∀ c o, c ≠ S → h'.get? c = some o → (h'.update S (Obj.mapSeq (·.push (.ref s.heap.objs.size)))).get? c = some o := fun c o hc e => (Heap.get?_update_other _ _ (Ne.symm hc)).trans e
      have kp2 : ∀ c o, c ∉ [z, TO, i1, i2, S] → s.heap.get? c = some o → (h'.update S (Obj.mapSeq (·.push (.ref s.heap.objs.size)))).get? c = some o := fun c o hc e => upk c o (fun q => hc (by rw [q]; simp)) (off kp c o hc e)
      have hx' : xs[ts.length]? = some x := by rw [hl]; exact hx
      have hy' : ys[ts.length]? = some y := by rw [hl]; exact hy
      obtain ⟨T2, f2, oT2, q1, q2, q3⟩ := hz2
      obtain ⟨a2, b2, hTO2⟩ := hTO2
      refine wpAny_bind ?_
      refine wpAny_updateSeq eS' rfl (wpAny_pure ⟨plainId_quiet F.plain_extend_loop _, ih (i + 1) _ (ts ++ [s.heap.objs.size]) _ (by omega) hlt (by rw [List.length_append, List.length_singleton]; omega) (Nat.le_trans hn (Nat.le_of_lt (Heap.lt_size (upk _ _ tS hp)))) (g.snoc kp2 hx' hy' (upk _ _ tS hp) hn tout (Nat.le_refl _)) (.inr ⟨T2, f2, oT2, upk _ _ (Ne.symm hS1) q1, q2, upk _ _ (fun q => q2 (by rw [q]; simp)) q3⟩)
        (upk _ _ (Ne.symm hS2) (kp _ _ D.TIz D.TITO D.TIi1 D.TIi2 hTI)) ⟨a2, b2, upk _ _ (Ne.symm hS3) hTO2⟩ (h1'.at fun o e => upk _ _ (Ne.symm hS4) e) (h2'.at fun o e => upk _ _ (Ne.symm hS5) e) (hl1.at fun o e => upk _ _ (Ne.symm hS6) (kp _ _ D.l1z D.l1TO D.l1i1 D.l1i2 e)) (hl2.at fun o e => upk _ _ (Ne.symm hS7) (kp _ _ D.l2z D.l2TO D.l2i1 D.l2i2 e)) (by rw [ea]; exact Heap.get?_update_self _ eS' rfl) fun h'' us c' r1 r2 r3 => hR h'' us c' r1 r2 r3⟩) (by omega) (by rw [Array.size_push]; omega)
end
section
variable {prog : Program} {w : World} {A : Around} {E : Value → Shared → Prop} {s : Shared}
theorem collect_zip {z TI TO i1 i2 l1 l2 : Addr} {xs ys : Array Value} {a b : Value} {Q : List Value → Shared → Prop} (hh : A.handled = none) (D : ZipApart z TI TO i1 i2 l1 l2) (same : xs.size = ys.size) (fit : xs.size ≤ sizeLine)
    (hz : IsZip s.heap z TI TO .none) (hTI : IsPair s.heap TI (.ref i1) (.ref i2)) (hTO : IsPair s.heap TO a b) (h1 : s.heap.IsListIter i1 l1 0) (h2 : s.heap.IsListIter i2 l2 0) (hl1 : s.heap.IsList l1 xs) (hl2 : s.heap.IsList l2 ys)
    (hQ : ∀ (h' : Heap) (us : List Addr), us.length = xs.size → Gave s.heap h' s.heap.objs.size [z, TO, i1, i2, s.heap.objs.size] xs ys us → Q (us.map Value.ref) { s with heap := h' }) : wpAny (model prog w) A (collect (.ref z)) Q E s := by
  have nz : z < s.heap.objs.size := Heap.lt_size hz
  have nTO : TO < s.heap.objs.size := Heap.lt_size hTO
  have nTI : TI < s.heap.objs.size := Heap.lt_size hTI
  have ni1 : i1 < s.heap.objs.size := by obtain ⟨_, e, _⟩ := id h1; exact Heap.lt_size e
  have ni2 : i2 < s.heap.objs.size := by obtain ⟨_, e, _⟩ := id h2; exact Heap.lt_size e
  have nl1 : l1 < s.heap.objs.size := by obtain ⟨_, e, _⟩ := id hl1; exact Heap.lt_size e
  have nl2 : l2 < s.heap.objs.size := by obtain ⟨_, e, _⟩ := id hl2; exact Heap.lt_size e
  have hSI : s.heap.objs.size ≠ z := Nat.ne_of_gt nz
  have hS : s.heap.objs.size ∉ [z, TI, TO, i1, i2, l1, l2] := by
    simp only [List.mem_cons, List.not_mem_nil, or_false, not_or]
    exact ⟨hSI, Nat.ne_of_gt nTI, Nat.ne_of_gt nTO, Nat.ne_of_gt ni1, Nat.ne_of_gt ni2, Nat.ne_of_gt nl1, Nat.ne_of_gt nl2⟩
  unfold collect
  refine wpAny_bind (wpAny_runValue (codeAny_builtin F.entry_proto_collect ?_))
  rw [Around.under_plainId F.plain_proto_collect _]
  show wpAny _ A.in1 (newList [] >>= fun l => again (.builtin "list.__iadd__" ⟨[l, .ref z], []⟩)) _ _ s
  refine wpAny_bind (wpAny_newObj_type ?_)
  refine wpAny_pure ⟨plainId_quiet F.plain_list_iadd _, codeAny_builtin F.entry_list_iadd ?_⟩
  rw [Around.under_plainId F.plain_list_iadd _]
  have hz1 : IsZip (s.heap.push { cls := .type "list", data := .seq ([] : List Value).toArray }) z TI TO .none := Heap.get?_push_of_some _ hz
  have hT : ({ s with heap := s.heap.push { cls := .type "list", data := .seq ([] : List Value).toArray } } : Shared).TypeIs (.ref z) "zip" := ⟨_, hz1, rfl⟩
  show wpAny _ A.in1 (Builtin.List.listExtendWith (.ref s.heap.objs.size) (.ref z) (.ref s.heap.objs.size)) _ _ _
  unfold Builtin.List.listExtendWith
  refine wpAny_bind (wpAny_typeOf hT ?_)
  have h1' : Builtin.List.listSameRef (.ref s.heap.objs.size) (.ref z) = false := by simp [Builtin.List.listSameRef, hSI]
  have h2' : (Value.type "zip" == Value.type "list") = false := by decide
  have h3' : (Value.type "zip" == Value.type "tuple") = false := by decide
  simp only [h1', h2', h3', Bool.or_false, Bool.false_eq_true, if_false]
  refine wpAny_bind (wpAny_pyIter_zip hz1 ?_)
  refine wpAny_bind (wpAny_holding ?_)
  unfold Builtin.List.listLengthHint
  refine wpAny_bind (wpAny_specialOf hT zip_nolen ?_)
  show wpAny _ A.in1 (specialOf (Value.ref z) (Str.ofString "__length_hint__") >>= _) _ _ _
  refine wpAny_bind (wpAny_specialOf hT zip_nohint ?_)
  refine wpAny_pure ?_
  show wpAny _ A.in1 (rule "list.extend.makes-room" >>= fun _ => Builtin.List.listTouch (.ref s.heap.objs.size) >>= fun _ =>
    again (.builtin "list.extend.loop" ⟨[.ref s.heap.objs.size, .ref z, .ref s.heap.objs.size], []⟩)) _ _ _
  refine wpAny_bind (wpAny_rule ?_)
  have hS₁ : (s.heap.push { cls := .type "list", data := .seq ([] : List Value).toArray }).get? s.heap.objs.size = some { cls := .type "list", data := .seq ([] : List Value).toArray } := Heap.get?_push_size _ rfl
  refine wpAny_bind ?_
  show wpAny _ A.in1 (updateSeq s.heap.objs.size (·.push .none) >>= fun _ => updateSeq s.heap.objs.size (·.pop)) _ _ _
  refine wpAny_bind (wpAny_updateSeq hS₁ rfl ?_)
  have hS₂ := Heap.get?_update_self (Obj.mapSeq (·.push Value.none)) hS₁ rfl
  refine wpAny_updateSeq hS₂ rfl ?_
  have hS₃ := Heap.get?_update_self (Obj.mapSeq (·.pop)) hS₂ rfl
  have oth : ∀ b o, b ≠ s.heap.objs.size → s.heap.get? b = some o →
      (((s.heap.push { cls := .type "list", data := .seq ([] : List Value).toArray }).update s.heap.objs.size (Obj.mapSeq (·.push Value.none))).update s.heap.objs.size (Obj.mapSeq (·.pop))).get? b = some o :=
    fun b o hb e => (Heap.get?_update_other _ _ (Ne.symm hb)).trans ((Heap.get?_update_other _ _ (Ne.symm hb)).trans (Heap.get?_push_of_some _ e))
  refine wpAny_pure ⟨plainId_quiet F.plain_extend_loop _, extend_zip (h0 := s.heap) (n0 := s.heap.objs.size) D hh same fit hS _ xs.size 0 _ [] _ (by omega) (by omega) rfl (Nat.le_of_lt (Heap.lt_size hS₃))
    ⟨fun j t e => by simp at e, fun t ht => (List.not_mem_nil ht).elim, List.nodup_nil, fun c o hc e => oth c o (fun q => hc (by rw [q]; simp)) e⟩ (.inl (oth _ _ (Nat.ne_of_lt nz) hz)) (oth _ _ (Nat.ne_of_lt nTI) hTI) ⟨a, b, oth _ _ (Nat.ne_of_lt nTO) hTO⟩
    (h1.at fun o e => oth _ _ (Nat.ne_of_lt ni1) e) (h2.at fun o e => oth _ _ (Nat.ne_of_lt ni2) e) (hl1.at fun o e => oth _ _ (Nat.ne_of_lt nl1) e) (hl2.at fun o e => oth _ _ (Nat.ne_of_lt nl2) e) hS₃ fun h' us c' r1 r2 r3 => ?_⟩
  show wpAny _ A (load s.heap.objs.size >>= _) _ _ _
  refine wpAny_bind (wpAny_load r3 ?_)
  refine wpAny_pure ?_
  have := hQ h' us r1 r2
  simpa using this
theorem code_tuple_new_zip {z TI TO i1 i2 l1 l2 : Addr} {xs ys : Array Value} {a b : Value} {Q₁ : Value → Shared → Prop} (hh : A.handled = none) (D : ZipApart z TI TO i1 i2 l1 l2) (same : xs.size = ys.size) (fit : xs.size ≤ sizeLine)
    (hz : IsZip s.heap z TI TO .none) (hTI : IsPair s.heap TI (.ref i1) (.ref i2)) (hTO : IsPair s.heap TO a b) (h1 : s.heap.IsListIter i1 l1 0) (h2 : s.heap.IsListIter i2 l2 0) (hl1 : s.heap.IsList l1 xs) (hl2 : s.heap.IsList l2 ys)
    (hQ : ∀ (h' : Heap) (us : List Addr), us.length = xs.size → Gave s.heap h' s.heap.objs.size [z, TO, i1, i2, s.heap.objs.size] xs ys us → Q₁ (.ref h'.objs.size) { s with heap := h'.push { cls := .type "tuple", data := .seq (us.map Value.ref).toArray } }) :
    codeAny (model prog w) A (.call (.builtin "tuple.__new__") ⟨[.type "tuple", .ref z], []⟩) (wants Q₁ E) s := by
  refine codeAny_of_tree ?_
  show wpAny _ A.in1 (do checkBuiltinCall "tuple.__new__" ⟨[.type "tuple", .ref z], []⟩; again (.builtin "tuple.__new__" ⟨[.type "tuple", .ref z], []⟩)) _ _ s
  refine wpAny_bind (wpAny_of_eq (F.newCall_tuple_1 _) (wpAny_pure ⟨plainId_quiet F.plain_tuple_new _, codeAny_builtin F.entry_tuple_new ?_⟩))
  rw [Around.under_plainId F.plain_tuple_new _]
  have hsub := sub_tuple_self
  have hinit := init_tuple_lookup
  have hmh := madeHere_tuple
  have hTz : s.TypeIs (.ref z) "zip" := ⟨_, hz, rfl⟩
  have hh1 : A.in1.handled = none := hh
  wp_walk using wpAny_typeOf hTz, collect_zip (A := A.in1) hh1 D same fit hz hTI hTO h1 h2 hl1 hl2
  intro h' us ul g
  show wpAny _ _ (Builtin.Tuple.tupleExact (us.map Value.ref).toArray >>= fun v => ret v) _ _ _
  unfold Builtin.Tuple.tupleExact
  refine wpAny_bind (wpAny_newObj_type ?_ (by show (us.map Value.ref).toArray.size ≤ sizeLine; simp only [List.size_toArray, List.length_map]; omega))
  exact wpAny_pure (hQ h' us ul g)
theorem call_tuple_zip {z TI TO i1 i2 l1 l2 : Addr} {xs ys : Array Value} {a b : Value} {Q : Value → Shared → Prop} (hh : A.handled = none) (D : ZipApart z TI TO i1 i2 l1 l2) (same : xs.size = ys.size) (fit : xs.size ≤ sizeLine)
    (hz : IsZip s.heap z TI TO .none) (hTI : IsPair s.heap TI (.ref i1) (.ref i2)) (hTO : IsPair s.heap TO a b) (h1 : s.heap.IsListIter i1 l1 0) (h2 : s.heap.IsListIter i2 l2 0) (hl1 : s.heap.IsList l1 xs) (hl2 : s.heap.IsList l2 ys)
    (hQ : ∀ (h' : Heap) (us : List Addr), us.length = xs.size → Gave s.heap h' s.heap.objs.size [z, TO, i1, i2, s.heap.objs.size] xs ys us → Q (.ref h'.objs.size) { s with heap := h'.push { cls := .type "tuple", data := .seq (us.map Value.ref).toArray } }) :
    wpAny (model prog w) A (call (.type "tuple") [.ref z]) Q E s := by
  refine callType_codes (Q₁ := fun obj s₁ => s₁.TypeIs obj "tuple" ∧ Q obj s₁) F.called_tuple (F.typeCall_tuple_1 _) F.entry_object_init
    (code_tuple_new_zip (A := A.in1) hh D same fit hz hTI hTO h1 h2 hl1 hl2 fun h' us ul g => ⟨⟨_, Heap.get?_push_size _ rfl, rfl⟩, hQ h' us ul g⟩) fun obj s₁ h₁ => ?_
  exact ⟨h₁.1, F.args_object_init_2 obj _, object_init_meets F.called_tuple.init.lookup F.called_tuple.made (by decide) prog w A.in1 _ s₁ ⟨h₁.1, rfl, h₁.2⟩⟩
end
theorem paired_by {α β : Type} {R : α → β → Prop} : ∀ {as : List α} {bs : List β}, as.length = bs.length → (∀ (i : Nat) a b, as[i]? = some a → bs[i]? = some b → R a b) → Paired R as bs
  | [], [], _, _ => .nil
  | a :: as, b :: bs, l, h => .cons (h 0 a b rfl rfl) (paired_by (by simpa using l) fun i x y e1 e2 => h (i + 1) x y e1 e2)
  | [], _ :: _, l, _ => by simp at l
  | _ :: _, [], l, _ => by simp at l
theorem paired_mem {α β : Type} {F G : α → β → Prop} : ∀ {l : List α} {m : List β}, (∀ a ∈ l, ∀ b, F a b → G a b) → Paired F l m → Paired G l m
  | _, _, _, .nil => .nil
  | _, _, h, .cons x r => .cons (h _ (List.mem_cons_self ..) _ x) (paired_mem (fun a ha => h a (List.mem_cons_of_mem _ ha)) r)
section
variable {X : Cx} {pins : List (Addr × Obj)} {σ : L2.St} {H : Hp} {s : Shared}
theorem lay_pairs {h' : Heap} (I : L2.Inv X pins σ H s) (kp : ∀ c o, s.heap.get? c = some o → h'.get? c = some o) : ∀ {ts : List Addr} {xys : List (V × V)}, Paired (fun t xy => ∃ u v, RelV xy.1 u ∧ RelV xy.2 v ∧ IsPair h' t u v) ts xys → ts.Nodup → (∀ t ∈ ts, s.heap.objs.size ≤ t) →
    ∃ (H' : Hp) (G : Heap), L2.Inv X pins σ H' { s with heap := G } ∧ (∀ c, c ∉ ts → H' c = H c) ∧ Paired (fun t xy => H' t = some (.tup [xy.1, xy.2])) ts xys ∧ (∀ c o, G.get? c = some o → h'.get? c = some o) ∧ ∀ c o, G.get? c = some o → (∃ o, s.heap.get? c = some o) ∨ c ∈ ts
  | _, _, .nil, _, _ => ⟨H, s.heap, I, fun _ _ => rfl, .nil, kp, fun c o e => .inl ⟨o, e⟩⟩
  | t :: ts, xy :: xys, .cons ⟨u, v, ru, rv, hp⟩ r, nd, low => by
    obtain ⟨nt, nd'⟩ := List.nodup_cons.mp nd
    obtain ⟨H', G, I', e1, e2, e3, e4⟩ := lay_pairs I kp r nd' fun z hz => low z (List.mem_cons_of_mem _ hz)
    obtain ⟨G', g1, g2⟩ := restrict h' fun c => (G.get? c).isSome || c == t
    have lt := low t (List.mem_cons_self ..)
    have gn : G.get? t = none := by
      cases e : G.get? t with
      | none => rfl
      | some o =>
        rcases e4 t o e with ⟨o', z⟩ | z
        · exact absurd (Heap.lt_size z) (Nat.not_lt.mpr lt)
        · exact absurd z nt
    have hn : H' t = none := by
      rw [e1 t nt]
      exact I.hok.fresh lt
    have gG : ∀ c o, G.get? c = some o → G'.get? c = some o := fun c o e => by
      rw [g1 c (by simp [e])]
      exact e3 c o e
    have gt : G'.get? t = some { cls := .type "tuple", data := .seq #[u, v] } := by
      rw [g1 t (by simp)]
      exact hp
    have line : sizeLine = 16777216 := sizeLine_eq
    refine ⟨upd H' t (.tup [xy.1, xy.2]), G', I'.laidN (t' := s.toks) gG gn hn ⟨(by show 2 ≤ sizeLine; omega), [u, v], .cons ru (.cons rv .nil), ⟨_, gt, rfl, _, rfl⟩⟩, fun c hc => ?_, .cons upd_same (paired_mem (fun a ha b e => (upd_ne fun z => nt (by rw [← z]; exact ha)).trans e) e2), fun c o e => ?_, fun c o e => ?_⟩
    · rw [upd_ne fun z => hc (by rw [z]; exact List.mem_cons_self ..)]
      exact e1 c fun z => hc (List.mem_cons_of_mem _ z)
    · by_cases hc : ((G.get? c).isSome || c == t) = true
      · rw [g1 c hc] at e
        exact e
      · rw [g2 c (by simpa using hc)] at e
        cases e
    · by_cases hc : ((G.get? c).isSome || c == t) = true
      · rw [Bool.or_eq_true] at hc
        rcases hc with hc | hc
        · obtain ⟨o', ho⟩ := Option.isSome_iff_exists.mp hc
          rcases e4 c o' ho with z | z
          · exact .inl z
          · exact .inr (List.mem_cons_of_mem _ z)
        · exact .inr (by rw [eq_of_beq hc]; exact List.mem_cons_self ..)
      · rw [g2 c (by simpa using hc)] at e
        cases e
end
section
variable {X : Cx} {e e2 : Expr} {ta : L2.TA} {p p2 pos pos2 : Pos}
def tTupZip (K : PySem.W.Frag) (ta : L2.TA) : L2.TE := fun σ H Q => ta σ H fun vs H1 => ∃ (a b : Addr) (xs ys : List V), vs = [.ref a, .ref b] ∧ SqL K H1 a xs ∧ SqL K H1 b ys ∧ xs.length = ys.length ∧
  ∀ (q : Addr) (o : Obj) (ps : List Addr) (H2 : Hp), Same H1 H2 → H1 q = none → o.dict = none → H2 q = some (.frz o (.tup (ps.map V.ref))) → Paired (fun t xy => H2 t = some (.tup [xy.1, xy.2])) ps (xs.zip ys) → Q (.ref q) H2
theorem pe_tupZip (hc : X.calm = true) (hg : Gl X "tuple") (hm : X.mg "tuple" = none) (hg2 : Gl X "zip") (hm2 : X.mg "zip" = none) (ha : L2.PA X [e, e2] ta) (hbt : PySem.bootBuiltins "tuple" = some (.type "tuple") := by decide +kernel)
    (hs : starEach [e, e2] X.env = (false, eval e X.env) :: starEach [e2] X.env := by rfl) (hpl : (backTo pos2 (starEach [e2] X.env)).any (·.1) = false := by rfl)
    (na : starEach [Expr.Call (.Name "zip" p2) [e, e2] [] pos2] X.env = (false, eval (Expr.Call (.Name "zip" p2) [e, e2] [] pos2) X.env) :: starEach [] X.env := by rfl) :
    L2.PE X (.Call (.Name "tuple" p) [.Call (.Name "zip" p2) [e, e2] [] pos2] [] pos) (tTupZip X.K ta) := by
  refine ⟨fun pins s σ H Q I h => ?_⟩
  refine Call_ (ld_blt I hg hm hbt (PyProof.Rows.callWith_type1 (args_cons ?_ na) na))
  refine Call_ (ld_blt I hg2 hm2 PyProof.Rows.boot_zip (PyProof.Rows.callWith_type1 (thn (ha.run pos2 pins s σ H _ I h) fun us s1 ⟨vs, H1, I1, r1, a, b, xs, ys, ex, hx, hy, len, q⟩ => ?_) hs hpl))
  subst ex
  obtain ⟨u1, u2, rfl, ra, rb⟩ := vals2 r1
  cases ra
  cases rb
  obtain ⟨its, rv, pa, za⟩ := I1.list hx
  obtain ⟨its2, rv2, pb, _⟩ := I1.list hy
  refine call_zip_2 pa.isList pb.isList fun h' hz hTI hTO h1 h2 hsz keep => args_nil ?_
  have l1 := rv.length
  have l2 := rv2.length
  refine call_tuple_zip (s := { s1 with heap := h' }) (I1.ok.hd hc) (PySem.W.ktu_apart s1.heap.objs.size a b pa.lt pb.lt) (by simp only [List.size_toArray]; omega) (by simp only [List.size_toArray]; omega) hz hTI hTO h1 h2 (pa.isList.at fun o e => keep _ o e) (pb.isList.at fun o e => keep _ o e) fun h3 ts tl g => ?_
  simp only [List.size_toArray] at tl
  have ex : ∀ c o, s1.heap.get? c = some o → c ∉ [s1.heap.objs.size + 4, s1.heap.objs.size + 3, s1.heap.objs.size, s1.heap.objs.size + 1, h'.objs.size] := fun c o e => by
    have lt := Heap.lt_size e
    have hsz' : h'.objs.size = s1.heap.objs.size + 5 := hsz
    simp only [List.mem_cons, List.not_mem_nil, or_false, not_or]
    refine ⟨fun z => ?_, fun z => ?_, fun z => ?_, fun z => ?_, fun z => ?_⟩
    · exact Nat.not_lt.mpr (Nat.le_add_right _ _) (z ▸ lt)
    · exact Nat.not_lt.mpr (Nat.le_add_right _ _) (z ▸ lt)
    · exact Nat.lt_irrefl _ (z ▸ lt)
    · exact Nat.not_lt.mpr (Nat.le_add_right _ _) (z ▸ lt)
    · rw [z, hsz'] at lt
      exact Nat.not_lt.mpr (Nat.le_add_right _ _) lt
  have kp : ∀ c o, s1.heap.get? c = some o → h3.get? c = some o := fun c o e => g.kp c o (ex c o e) (keep c o e)
  have prs : Paired (fun t xy => ∃ u v, RelV xy.1 u ∧ RelV xy.2 v ∧ IsPair h3 t u v) ts (xs.zip ys) := paired_by (by rw [List.length_zip]; omega) fun i t xy e1 e2 => by
    obtain ⟨x, y, f1, f2, f3⟩ := g.prs i t e1
    obtain ⟨g1, g2⟩ := List.getElem?_zip_eq_some.mp e2
    obtain ⟨u, hu, ru⟩ := rv.get g1
    obtain ⟨v, hv, rv'⟩ := rv2.get g2
    rw [List.getElem?_toArray, hu] at f1
    rw [List.getElem?_toArray, hv] at f2
    cases f1
    cases f2
    exact ⟨_, _, ru, rv', f3⟩
  have low : ∀ t ∈ ts, s1.heap.objs.size ≤ t := fun t ht => by
    have := (g.low t ht).1
    have hsz' : h'.objs.size = s1.heap.objs.size + 5 := hsz
    have this' : h'.objs.size ≤ t := this
    omega
  obtain ⟨H2, G, I2, d1, d2, d3, d4⟩ := lay_pairs I1 kp prs g.nd low
  have big : s1.heap.objs.size ≤ h3.objs.size := by
    have hsz' : h'.objs.size = s1.heap.objs.size + 5 := hsz
    have e := g.kp (s1.heap.objs.size + 2) _ (fun z => by
      simp only [List.mem_cons, List.not_mem_nil, or_false] at z
      rcases z with z | z | z | z | z
      · exact absurd (Nat.add_left_cancel z) (by decide)
      · exact absurd (Nat.add_left_cancel z) (by decide)
      · exact Nat.ne_of_gt (Nat.lt_add_of_pos_right (by decide)) z
      · exact absurd (Nat.add_left_cancel z) (by decide)
      · exact absurd (Nat.add_left_cancel (z.trans hsz')) (by decide)) hTI
    exact Nat.le_of_lt (Nat.lt_of_le_of_lt (Nat.le_add_right _ _) (Heap.lt_size e))
  have gn : G.get? h3.objs.size = none := by
    cases e : G.get? h3.objs.size with
    | none => rfl
    | some o => exact absurd (Heap.lt_size (d3 _ o e)) (Nat.lt_irrefl _)
  have tn : h3.objs.size ∉ ts := fun z => Nat.lt_irrefl _ (g.low _ z).2.1
  have nH : H1 h3.objs.size = none := I1.hok.fresh big
  have hn : H2 h3.objs.size = none := by
    rw [d1 _ tn]
    exact nH
  have sm : Same H1 H2 := fun c o e => by
    rw [d1 c fun z => ?_]
    · exact e
    · have := I1.hok.fresh (low c z)
      rw [this] at e
      cases e
  have refs : Vals (ts.map V.ref) (ts.map Value.ref) := by
    generalize ts = l
    induction l with
    | nil => exact .nil
    | cons x l ih => exact .cons rfl ih
  refine ⟨.ref h3.objs.size, upd H2 h3.objs.size (.frz { cls := .type "tuple", data := .seq (ts.map Value.ref).toArray } (.tup (ts.map V.ref))), I2.laidN (t' := s1.toks) (fun c o e => Heap.get?_push_of_some _ (d3 c o e)) gn hn ⟨Heap.get?_push_size _ rfl, by rw [List.length_map]; omega, _, refs, IsTup.new _ _⟩, rfl, q _ _ ts _ (fun c o e => (upd_ne (ne_of_none (sm c o e) hn)).trans (sm c o e)) nH rfl upd_same (Paired.mapP d2 fun t xy e => (upd_ne (ne_of_none e hn)).trans e)⟩
end
end Mine

set_option Elab.async false
set_option linter.all false
set_option maxRecDepth 100000
set_option maxHeartbeats 4000000
/-! xs[::2], xs[1::2] of a list. -/
namespace Mine
open PySem PySem.Spec PyProof.Rows L2
theorem vals_places : ∀ {xs : List V} {us : List Value}, Vals xs us → ∀ js : List Nat, Vals (js.filterMap (xs[·]?)) (js.filterMap (us[·]?))
  | _, _, _, [] => .nil
  | xs, us, h, j :: js => by
    have ih := vals_places h js
    cases hn : xs[j]? with
    | some n =>
      obtain ⟨u, hv, ru⟩ := h.get hn
      simp only [List.filterMap_cons, hn, hv]
      exact .cons ru ih
    | none =>
      have hv : us[j]? = none := by
        rw [List.getElem?_eq_none_iff] at hn ⊢
        rw [← h.length]
        exact hn
      simp only [List.filterMap_cons, hn, hv]
      exact ih
def at2 (lo : Option Int) (xs : List V) : List V := (sliceRange (sliceBounds lo none (some 2) xs.length).1 (sliceBounds lo none (some 2) xs.length).2.1 (sliceBounds lo none (some 2) xs.length).2.2).filterMap (xs[·]?)
def tSl2 (K : PySem.W.Frag) (te : TE) (tl : TO) : TE := fun σ H Q => te σ H fun x H1 => tl σ H1 fun o H2 => ∃ a xs, x = .ref a ∧ SqL K H2 a xs ∧ ∀ p, H2 p = none → Q (.ref p) (upd H2 p (.lst (at2 o xs)))
section
variable {X : Cx}
theorem pe_sl2 {e : Expr} {lo : Option Expr} {te : TE} {tl : TO} {k : Nat} {p1 p2 pos : Pos} (he : PE X e te) (hl : PO X lo tl) : PE X (.Subscript e (.Slice lo none (some (.Constant (.int 2) k p1)) p2) pos) (tSl2 X.K te tl) := by
  refine ⟨fun pins s σ H Q I h => ?_⟩
  refine Subscript_ (thn (he.run pins s σ H _ I h) fun v s1 ⟨x, H1, I1, r1, q1⟩ => ?_)
  have hst : PO X (some (.Constant (.int 2) k p1)) (tPart (tC (.int 2))) := po_some pe_int
  refine wpAny_Slice (thn (hl.run pins s1 σ H1 _ I1 q1) fun vl s2 ⟨l, H2, I2, pl, q2⟩ => ?_)
  refine thn (po_none.run pins s2 σ H2 (fun o H3 => o = none ∧ H3 = H2) I2 ⟨rfl, rfl⟩) fun vu s3 ⟨u, H3, I3, pu, eu, e3⟩ => ?_
  subst eu e3
  refine thn (hst.run pins s3 σ H3 (fun o H4 => o = some 2 ∧ H4 = H3) I3 ⟨2, rfl, rfl, rfl⟩) fun vs s4 ⟨o, H4, I4, ps, eo, e4⟩ => ?_
  subst eo e4
  obtain ⟨a, xs, ex, hx, q⟩ := q2
  subst ex
  cases r1
  have I5 : L2.Inv X pins σ H4 { s4 with heap := s4.heap.push { cls := .type "slice", data := .fields #[vl, vu, vs] } } := I4.kept (t' := s4.toks) fun b ob q => Heap.get?_push_of_some _ q
  obtain ⟨its, r, ht, hz⟩ := I5.list hx
  have hlen := r.length
  show wpAny (model X.prog X.w) X.A (subscriptTail e (.Slice lo none (some (.Constant (.int 2) k p1)) p2) (.ref a) (.ref s4.heap.objs.size)) (EP X pins σ Q) X.xe { s4 with heap := s4.heap.push { cls := .type "slice", data := .fields #[vl, vu, vs] } }
  refine tail_any (ops := [.ref a, .ref s4.heap.objs.size]) ht.isList.typeIs (PySem.slot_list_getitem.lookup) ?_ (by with_unfolding_all rfl)
  refine wpAny_getItem_list_slice ht.isList (Heap.IsSliceOf.new _ vl vu vs) pl pu ps (by decide) ?_ (by rw [List.size_toArray]; omega)
  have e : slicePick its.toArray l none (some 2) = ((sliceRange (sliceBounds l none (some 2) xs.length).1 (sliceBounds l none (some 2) xs.length).2.1 (sliceBounds l none (some 2) xs.length).2.2).filterMap (its[·]?)).toArray := by
    simp [slicePick, hlen]
  have sz := slicePick_size_le its.toArray l none (some 2)
  rw [e] at sz ⊢
  have rr := vals_places r (sliceRange (sliceBounds l none (some 2) xs.length).1 (sliceBounds l none (some 2) xs.length).2.1 (sliceBounds l none (some 2) xs.length).2.2)
  refine ⟨.ref _, _, I5.laid (t' := s4.toks) (o := .lst (at2 l xs)) (fun b ob q => Heap.get?_push_of_some _ q) (Nat.le_refl _) ?_, rfl, q _ (I5.hok.fresh (Nat.le_refl _))⟩
  have l2 := rr.length
  simp only [List.size_toArray] at sz
  exact ⟨by show (at2 l xs).length ≤ sizeLine; unfold at2; omega, _, 0, rr, Heap.get?_push_size _ rfl⟩
end
end Mine

set_option Elab.async false
set_option linter.all false
set_option maxRecDepth 100000
set_option maxHeartbeats 4000000
/-! for i, c in enumerate(text); xs[b:] = [x]. -/
namespace Mine
open PySem PySem.Spec PyProof.Rows L2
/-- sign i of a text, numbered, in a new pair -/
def IteT (x : Str) : It where
  go := fun i _ => i < x.cps.size
  yld := fun i H v H' => ∃ T c, v = .ref T ∧ H T = none ∧ H' = upd H T (.tup [.int (i : Nat), .str ⟨#[c]⟩]) ∧ x.cps[i]? = some c
  stop := fun i _ => x.cps.size ≤ i
def EnT (x : Str) (t : Tok) (e it : Addr) (i : Nat) (h : Heap) : Prop := (∃ old, IsEnum h e it ((i : Nat) : Int) old) ∧ h.IsStrIter it (strIterType x) x t i ∧ e ≠ it
theorem EnT.to {x : Str} {t : Tok} {e it : Addr} {i : Nat} {h h' : Heap} (y : EnT x t e it i h) (ke : ∀ o, h.get? e = some o → h'.get? e = some o) (ki : ∀ o, h.get? it = some o → h'.get? it = some o) : EnT x t e it i h' := by
  obtain ⟨⟨old, he⟩, hi, n⟩ := y
  obtain ⟨o, ho, r⟩ := hi
  exact ⟨⟨old, ke _ he⟩, ⟨o, ki o ho, r⟩, n⟩
theorem enumT_over {P : Program} {w : World} {A : Around} {E : Value → Shared → Prop} {s : Shared} {e it : Addr} {i : Nat} {c : Int} {x : Str} {t : Tok} {old : Value} {Q : Option Value → Shared → Prop} (hd : A.handled = none)
    (ob : IsEnum s.heap e it c old) (at_ : s.heap.IsStrIter it (strIterType x) x t i) (nx : x.cps[i]? = none) (go : ∀ h', Heap.ExtBut it s.heap h' → Q none { s with heap := h' }) :
    wpAny (model P w) A (pyNext (.ref e)) Q E s := by
  unfold pyNext
  have ty : s.TypeIs (.ref e) "enumerate" := ⟨_, ob, rfl⟩
  have fin : ∀ {Q : Value → Shared → Prop} {E' : Value → Shared → Prop}, (∀ h' e, Heap.ExtBut it s.heap h' → (∃ o, h'.get? e = some o ∧ o.cls = .type "StopIteration") → E' (.ref e) { s with heap := h' }) → wpAny (model P w) A.in1 (Builtin.SmallTypes.nextOf (.ref it)) Q E' s := by
    intro Q E' h
    cases ha : x.cps.all (· < 128)
    · simp only [strIterType, ha, Bool.false_eq_true, if_false] at at_
      exact wpAny_nextOf_wide_end hd at_ nx h
    · simp only [strIterType, ha, if_true] at at_
      exact wpAny_nextOf_ascii_end hd at_ nx h
  refine wpAny_bind (wpAny_attempt (wpAny_callSpecial?_slot (name := Str.ofString "__next__") ty F.slot_enumerate_next (wpAny_call_entry F.slot_enumerate_next ty F.entry_enumerate_next ?q1 (F.args_enumerate_next_1 _))))
  case q1 =>
    show wpAny _ _ (field (.ref e) 2 >>= _) _ _ _
    refine wpAny_bind (wpAny_field ob rfl (x := .ref it) rfl (wpAny_bind (fin fun h' z eb hz => ?_)))
    obtain ⟨oz, gz, cz⟩ := hz
    exact wpAny_bind (wpAny_isInstance (T := "StopIteration") (b := true) ⟨oz, gz, cz⟩ isSubtype_stop (wpAny_pure (go _ eb)))
theorem turn_enumT {P : Program} {w : World} {K : PySem.W.Frag} {elts : List Expr} {kk : Nat} {tpos : Pos} (x : Str) (t : Tok) (e it : Addr) : Turn P w K (.Tuple elts kk tpos) (IteT x) [e, it] e (EnT x t e it) := by
  refine { mem := List.mem_cons_self .., obj := ?ob, keep := fun i h h' y k => y.to (k e (by simp)) (k it (by simp)), item := ?nx, done := ?en, self := fun A i s Q E y h => wpAny_pyIter_enum y.1.choose_spec h }
  case ob =>
    intro i h y b hb
    obtain ⟨⟨old, he⟩, ⟨o, ho, _, hd⟩, _⟩ := y
    rcases two_of hb with rfl | rfl
    · exact ⟨_, he, fun _ q => nomatch q⟩
    · refine ⟨o, ho, fun v q => ?_⟩
      rw [hd] at q
      cases q
  case nx =>
    rintro X rfl rfl rfl hc i pins s σ H E I hf ⟨⟨old, he⟩, hit, hne⟩ hi
    have le : e < s.heap.objs.size := Heap.lt_size he
    have li : it < s.heap.objs.size := Heap.lt_size hit.choose_spec.1
    have D := Draws.text (prog := X.prog) (w := X.w) (A := X.A.in1) (I.ok.hd hc) it x t
    refine wpAny_pyNext_enum_itemC D he hit hi hne (by simp [hne]) fun z h1 tk hz out st1 tup _ kp => ?_
    obtain ⟨c, u, hc', rfl⟩ := hz
    refine ⟨_, rfl, wpAny_letOwnedTupleGo_enum (s := { s with heap := h1, toks := tk + 1 }) out fun h2 he2 sb => ?_⟩
    have ob : ObjOk X.prog X.w (upd H s.heap.objs.size (.tup [.int (i : Nat), .str ⟨#[c]⟩])) h2 s.heap.objs.size (.tup [.int (i : Nat), .str ⟨#[c]⟩]) := by
      refine ⟨(by show 2 ≤ sizeLine; decide), [.int (i : Nat) tk, .str ⟨#[c]⟩ u], .cons ⟨_, rfl⟩ (.cons ⟨_, rfl⟩ .nil), _, (sb.2 _ (Nat.ne_of_gt le)).trans tup, rfl, _, rfl⟩
    refine ⟨.ref s.heap.objs.size, _, I.turnedNew (t' := tk + 1) (ch := [e, it]) (fun b o hb g => (sb.2 b (off_two hb).1).trans (kp b o (off_two hb).1 (off_two hb).2 g)) hf (Nat.le_refl _) ob, rfl,
      ⟨_, c, rfl, I.hok.fresh (Nat.le_refl _), rfl, hc'⟩, ⟨⟨.str ⟨#[c]⟩ u, ?_⟩, (by obtain ⟨o, ho, r⟩ := st1; exact ⟨o, (sb.2 it (Ne.symm hne)).trans ho, r⟩), hne⟩, fun b hb => ?_⟩
    · rw [show ((i + 1 : Nat) : Int) = (i : Int) + 1 by omega]
      exact he2
    · have lb : b < s.heap.objs.size := (two_of hb).elim (fun z => z ▸ le) fun z => z ▸ li
      exact (upd_ne (Nat.ne_of_lt lb)).trans (hf b hb).1
  case en =>
    rintro X rfl rfl rfl hc i pins s σ H E I hf ⟨⟨old, he⟩, hit, _⟩ hi
    obtain ⟨f0, f1, _, f3, f4, f5⟩ := hf it (by simp)
    exact enumT_over (I.ok.hd hc) he hit (Array.getElem?_eq_none hi) fun h' eb => ⟨rfl, I.turned (t' := s.toks) (fun b o hb g => eb b o hb g) f0 f1 f3 f4 f5⟩
section
variable {X : Cx} {elts : List Expr} {kk : Nat} {p pos tpos : Pos} {e : Expr} {te : TA}
def iEnumT (te : TA) : TI := fun σ H R => te σ H fun vs H1 => ∃ x, vs = [.str x] ∧ R (IteT x) H1
theorem pi_enumT (hg : Gl X "enumerate") (hm : X.mg "enumerate" = none) (ha : PA X [e] te) (hs : starEach [e] X.env = [(false, eval e X.env)] := by rfl) :
    PI X (.Tuple elts kk tpos) (.Call (.Name "enumerate" p) [e] [] pos) (iEnumT te) := by
  refine ⟨fun pins s σ H R I h => ?_⟩
  refine Call_ (ld_blt I hg hm boot_enumerate (PyProof.Rows.callWith_type1 (thn (ha.run pos pins s σ H _ I h) fun us s1 ⟨vs, H1, I1, r1, q1⟩ => ?_) hs rfl))
  obtain ⟨x, ex, q⟩ := q1
  subst ex
  obtain ⟨u, rfl, r⟩ := vals1 r1
  obtain ⟨t, rfl⟩ := r
  refine call_enumerate_str fun h' he hit hsz hkp => wpAny_pyIter_enum he ?_
  have I3 : L2.Inv X pins σ H1 { s1 with heap := h' } := I1.kept (t' := s1.toks) hkp
  refine ⟨s1.heap.objs.size + 1, [s1.heap.objs.size + 1, s1.heap.objs.size], _, _, H1, rfl, I3, turn_enumT x t (s1.heap.objs.size + 1) s1.heap.objs.size, ⟨⟨.none, he⟩, hit, Nat.succ_ne_self _⟩, fun b hb => ?_, q⟩
  have hle : s1.heap.objs.size ≤ b := by
    have e' : b = s1.heap.objs.size + 1 ∨ b = s1.heap.objs.size := by simpa using hb
    rcases e' with z | z
    · rw [z]; exact Nat.le_add_right _ _
    · rw [z]; exact Nat.le_refl _
  exact I1.fpOk hle (I1.hok.fresh hle)
end
theorem walk_enumT {x : Str} : Walk (IteT x) x.cps.size (fun _ => True) (fun i H v H' => ∃ T c, v = .ref T ∧ H T = none ∧ H' = upd H T (.tup [.int (i : Nat), .str ⟨#[c]⟩]) ∧ x.cps[i]? = some c) :=
  ⟨fun _ _ hi _ => hi, fun _ _ => Nat.le_refl _, fun _ _ _ _ _ _ y => y⟩
end Mine

set_option Elab.async false
set_option linter.all false
set_option maxRecDepth 100000
set_option maxHeartbeats 4000000
/-! xs[b:] = ys, ys another list. -/
namespace Mine
open PySem PySem.Spec PyProof.Rows L2
theorem bounds_tail {a n : Nat} (h : a ≤ n) : sliceBounds (some (a : Int)) none none n = ((a : Int), (n : Int), 1) := by
  simp only [sliceBounds, Option.getD_none]
  have h1 : ¬ ((a : Int) < 0) := by omega
  simp only [h1, if_false, show (1 : Int) > 0 by decide, if_true]
  congr 1
  omega
section
variable {prog : Program} {w : World} {A : Around} {E : Value → Shared → Prop} {s : Shared}
theorem setTail {l b sl : Addr} {its new : Array Value} {n n2 : Nat} {vl vu : Value} {a : Nat} {Q : Unit → Shared → Prop}
    (e : s.heap.get? l = some { cls := .type "list", data := .seq its n }) (e2 : s.heap.get? b = some { cls := .type "list", data := .seq new n2 }) (hne : l ≠ b)
    (hs : s.heap.IsSliceOf sl vl vu .none) (pl : IsPart vl (some (a : Int))) (pu : IsPart vu none) (hac : a ≤ its.size) (hsz : its.size + new.size ≤ sizeLine)
    (h : Q () { s with heap := s.heap.update l (Obj.mapSeq fun xs => xs.extract 0 a ++ new ++ xs.extract its.size xs.size) }) : wpAny (model prog w) A (setItem (.ref l) (.ref sl) (.ref b)) Q E s := by
  have ll : s.heap.IsList l its := PySem.IsL.isList e
  have lb : s.heap.IsList b new := PySem.IsL.isList e2
  obtain ⟨os, h1, h2, h3⟩ := id hs
  have ty : s.TypeIs (.ref sl) "slice" := ⟨os, h1, h2⟩
  have two : Builtin.List.listSameRef (.ref l) (.ref b) = false := by
    unfold Builtin.List.listSameRef
    exact beq_eq_false_iff_ne.mpr hne
  have mx : (max (a : Int) (its.size : Int)).toNat = its.size := by omega
  have z1 : ((fun xs : Array Value => xs.extract 0 a ++ new ++ xs.extract its.size xs.size) its).size ≤ sizeLine + 1 := by
    simp only [Array.size_append, Array.size_extract]
    omega
  unfold setItem
  try with_reducible refine wpAny_holding ?_
  first | refine wpAny_bind (wpAny_pure ?_) | skip
  refine wpAny_bind (wpAny_sequenceKey ll.typeIs (by decide) ?_)
  refine wpAny_bind (wpAny_callSpecial?_slot (name := Str.ofString "__setitem__") ll.typeIs F.slot_list_setitem (wpAny_call_entry F.slot_list_setitem ll.typeIs F.entry_list_setitem ?q1 (F.args_list_setitem_3 _ _ _)))
  case q1 =>
    show wpAny _ _ (Builtin.List.listSubscript? (.ref sl) >>= _) _ _ s
    refine wpAny_bind ?_
    unfold Builtin.List.listSubscript?
    refine wpAny_bind (wpAny_specialOf ty slice_no_index ?_)
    simp only [Option.isNone_none, if_true]
    refine wpAny_pure ?_
    show wpAny _ _ (typeOf (.ref sl) >>= _) _ _ s
    refine wpAny_bind (wpAny_typeOf ty ?_)
    first
      | rw [if_neg (by decide)]
      | refine PySem.W.KFB.if_not (by decide) ?_
    rw [listSliceParts_eq]
    refine wpAny_bind (wpAny_bind (wpAny_field h1 h3 (x := .none) rfl (wpAny_bind (wpAny_listPart .none ?_))))
    rw [if_neg (show ¬ ((rawPart none == rawInt 0) = true) from Bool.false_ne_true)]
    refine wpAny_bind (wpAny_field h1 h3 (x := vl) rfl (wpAny_bind (wpAny_listPart pl ?_)))
    refine wpAny_bind (wpAny_field h1 h3 (x := vu) rfl (wpAny_bind (wpAny_listPart pu (wpAny_pure ?_))))
    first
      | simp only [two, Bool.false_eq_true, if_false]
      | refine PySem.W.KFB.if_not two ?_
      | (dsimp only
         rw [if_neg (by rw [two]; exact Bool.false_ne_true)])
    refine wpAny_bind (m := Builtin.List.listAllItems (.ref b) "must assign iterable to extended slice") ?_
    unfold Builtin.List.listAllItems
    refine wpAny_bind (wpAny_typeOf lb.typeIs ?_)
    first
      | refine PySem.W.KFB.if_so (by decide) ?_
      | rw [if_pos (by decide)]
    unfold Builtin.List.listItems
    refine wpAny_bind (wpAny_seqItems e2 rfl (wpAny_pure ?_))
    refine wpAny_bind (wpAny_bind (wpAny_seqItems e rfl (wpAny_pure ?_)))
    refine wpAny_bind (wpAny_of_eq ((sliceIndices_raw (some (a : Int)) none none its.size (by simp)).trans (congrArg (pure : Int × Int × Int → Sem (Int × Int × Int)) (bounds_tail hac))) ?_)
    show wpAny _ _ (if ((1 : Int) == 1) = true then _ else _) _ _ s
    rw [if_pos (by decide)]
    refine wpAny_bind (wpAny_rule ?_)
    first
      | simp only [notLongL hsz, Bool.false_eq_true, if_false]
      | refine PySem.W.KFB.if_not (notLongL hsz) ?_
    first | refine wpAny_bind (wpAny_pure ?_) | skip
    show wpAny _ _ (updateSeq l (fun xs => xs.extract 0 ((a : Int)).toNat ++ new ++ xs.extract (max (a : Int) (its.size : Int)).toNat xs.size) >>= _) _ _ s
    rw [mx, Int.toNat_natCast]
    refine wpAny_bind (wpAny_updateSeq (hz := Nat.le_trans (Nat.le_add_right _ _) hsz) (_hz' := z1) e rfl ?_)
    refine wpAny_bind (wpAny_letGo ?_)
    first
      | exact wpAny_bind (wpAny_pure (wpAny_pure ⟨.none, rfl, wpAny_pure h⟩))
      | exact wpAny_pure ⟨.none, rfl, wpAny_pure h⟩
end
section
variable {X : Cx}
def gTail (to ti : TE) : TG := fun v σ H Q => to σ H fun o H1 => tPart ti σ H1 fun i H2 => ∃ (l b : Addr) (c : Nat) (xs ys : List V), o = .ref l ∧ i = some (c : Int) ∧ v = .ref b ∧ H2 l = some (.lst xs) ∧ H2 b = some (.lst ys) ∧ l ≠ b ∧ c ≤ xs.length ∧ xs.length + ys.length ≤ sizeLine ∧ Q σ (upd H2 l (.lst (xs.take c ++ ys)))
theorem pg_tail {o i : Expr} {to ti : TE} {p2 pos : Pos} (ho : PE X o to) (hi : PE X i ti)
    (ha : ∀ v, assign (.Subscript o (.Slice (some i) none none p2) pos) X.env v = (do
      let ov ← holding [v] (eval o X.env)
      let iv ← holding [v, ov] (eval (.Slice (some i) none none p2) X.env)
      standAt pos
      holding [v, ov, iv] (setItem ov iv v)
      release [iv, v, ov] []) := by intro _; rfl) : PG X (.Subscript o (.Slice (some i) none none p2) pos) (gTail to ti) := by
  refine ⟨fun pins s σ H v u Q I r h => ?_⟩
  rw [ha]
  refine wpAny_bind (wpAny_holding (thn (ho.run pins s σ H _ I h) fun ov s1 ⟨x, H1, I1, r1, q1⟩ => ?_))
  refine wpAny_bind (wpAny_holding (wpAny_Slice (thn ((po_some hi).run pins s1 σ H1 _ I1 q1) fun vl s2 ⟨lo, H2, I2, pl, q2⟩ => ?_)))
  refine thn (po_none.run pins s2 σ H2 (fun o H3 => o = none ∧ H3 = H2) I2 ⟨rfl, rfl⟩) fun vu s3 ⟨hi', H3, I3, pu, e3, e4⟩ => ?_
  subst e3 e4
  refine thn (po_none.run pins s3 σ H3 (fun o H4 => o = none ∧ H4 = H3) I3 ⟨rfl, rfl⟩) fun vs s4 ⟨st, H4, I4, ps, e5, e6⟩ => ?_
  subst e5 e6
  cases ps
  obtain ⟨l, b, c, xs, ys, e1, e2, e3, hl, hb, ne, cl, fit, q⟩ := q2
  subst e1 e2 e3
  cases r1
  cases r
  have I5 : L2.Inv X pins σ H4 { s4 with heap := s4.heap.push { cls := .type "slice", data := .fields #[vl, vu, .none] } } := I4.kept (t' := s4.toks) fun b ob q => Heap.get?_push_of_some _ q
  obtain ⟨z, its, n, rx, pla, e⟩ := I5.lstM hl
  obtain ⟨z2, its2, n2, ry, plb, e'⟩ := I5.lstM hb
  have lx := rx.length
  have ly := ry.length
  refine wpAny_bind (wpAny_standAt (wpAny_bind (wpAny_holding ?_)))
  refine setTail (a := c) e e' ne (Heap.IsSliceOf.new _ vl vu .none) pl pu (by rw [List.size_toArray]; omega) (by rw [List.size_toArray, List.size_toArray]; omega) (wpAny_release ⟨σ, _, I5.lset (its' := its.take c ++ its2) (t' := s4.toks) hl e ?_ (Vals.append (rx.take _) ry) ?_, q⟩)
  · have z := splice_eq its its2 c its.toArray.size
    rw [List.size_toArray, List.drop_length, List.append_nil] at z
    exact z
  · rw [List.length_append, List.length_take]
    omega
end
end Mine

set_option Elab.async false
set_option linter.all false
set_option maxRecDepth 100000
set_option maxHeartbeats 4000000
/-! C.m(k1 = .., k2 = ..) of a classmethod with two parameters beside the class, named the other way round. -/
namespace Mine
open PySem PySem.Spec PyProof.Rows L2 ClX
section
variable {X : Cx} {k : Nat} {C p g : Addr} {mc : Value} {sp : L2.Sp} {fd : FuncData} {ps : List Str} {m k1 k2 : Str} {pos apos : Pos} {o : Expr} {kws : List Keyword} {ta : TE} {tk : TA}
def tCMethK2 (C : Addr) (sp : L2.Sp) (ta : TE) (tk : TA) : TE := fun σ H Q => ta σ H fun x H1 => x = .ref C ∧ tk σ H1 fun zs H2 => ∃ u v, zs = [u, v] ∧ sp [.ref C, v, u] H2 Q E0
theorem pe_cmethK2 {pl : Sem Bool} (he : PE X o ta) (r : CRead X.K C mc) (c : CMet X.K C mc m p g) (F : FnOk X.prog X.w X.K X.mg X.base CX0 k g fd ps sp) (hr : Room k X.A)
    (hb : ∀ (s : Shared) (a u v : Value), BindsTo s fd ⟨[a], [(k1, u), (k2, v)]⟩ (ps.zip [a, v, u])) (hkw : PK X kws tk)
    (hall : (backToKw pos (keywordEach kws X.env)).all (·.1.isSome) = true := by rfl) (hks : (backToKw pos (keywordEach kws X.env)).filterMap (·.1) = [k1, k2] := by rfl)
    (hpl : ((backTo pos (starEach [] X.env)).any (·.1) || (backToKw pos (keywordEach kws X.env)).any (·.1.isNone)) = false := by rfl)
    (ht : eval (.Call (.Attribute o m apos) [] kws pos) X.env = (do
      let ov ← eval o X.env
      standAt apos.atName
      let (f, first) ← holding [ov] (getMethod ov m pl)
      callWith pos f first (backTo pos (starEach [] X.env)) (backToKw pos (keywordEach kws X.env))) := by rfl) :
    PE X (.Call (.Attribute o m apos) [] kws pos) (tCMethK2 C sp ta tk) := by
  refine ⟨fun pins s σ H Q I h => ?_⟩
  refine PySem.W.methodCall_KW (pl := pl) (thn (he.run pins s σ H _ I h) fun u s1 ⟨x, H1, I1, rx, ex, q⟩ => ?_) ht
  subst ex
  obtain rfl : u = Value.ref C := rx
  refine getmethcm_ok I1 r c fun s2 I2 => ?_
  refine PySem.W.callWith_of hpl (PySem.W.keeps_M (K := X.K) (self := .ref C) c.fi) (evalArgs_kw2_nil hall ?_)
  refine thn (hkw.run pos _ s2 σ H1 _ I2 q) fun ws s3 ⟨zs, H2, I3, rz, uu, vv, ez, q2⟩ => ⟨⟨pin_at I3, I3.kIn⟩, ?_⟩
  subst ez
  obtain ⟨w1, w2, ew, r1, r2⟩ := vals2 rz
  subst ew
  rw [hks]
  show wpAny _ _ (call (.ref _) [] [(k1, w1), (k2, w2)]) _ _ _
  have z : wpAny (model X.prog X.w) X.A (call (.ref s1.heap.objs.size) [] [(k1, w1), (k2, w2)]) (EP X ((s1.heap.objs.size, PySem.W.methodObj (.ref g) (.ref C)) :: pins) σ Q) X.xe s3 := by
    refine wpAny_call (PySem.W.method_call (pin_at I3) (codeAny_mono (F.run X.A X.stack s3 H2 ⟨[.ref C], [(k1, w1), (k2, w2)]⟩ [.ref C, w2, w1] [.ref C, vv, uu] Q E0 hr I3.env0 (hb s3 (.ref C) w1 w2) (.cons rfl (.cons r2 (.cons r1 .nil))) q2) fun r s' hq => ?_))
    cases r with
    | error e => exact pass0 _ σ H2 s3 e s' I3 hq
    | ok fl =>
      cases fl with
      | ret u => exact I3.after hq
      | next => exact False.elim hq
      | brk => exact False.elim hq
      | cont => exact False.elim hq
  exact thn z fun _ _ y => unpinE y
end
end Mine

set_option Elab.async false
set_option linter.all false
set_option maxRecDepth 100000
set_option maxHeartbeats 4000000
/-! sorted(xs) of tuples that begin with texts, no two with one. -/
namespace Mine
open PySem PySem.Spec PyProof.Rows L2
/-- the text that a tuple begins with, as signs -/
def headK (h : Heap) (v : Value) : List Nat :=
  match v with
  | .ref a => match h.get? a with
    | some o => match o.data with
      | .seq xs _ => match xs[0]? with
        | some (Value.str x _) => x.cps.toList
        | _ => []
      | _ => []
    | none => []
  | _ => []
def headLt (h : Heap) (u v : Value) : Bool := decide (headK h u < headK h v)
theorem lst_anti {a b : List Nat} (h1 : ¬ a < b) (h2 : ¬ b < a) : a = b := List.le_antisymm (List.not_lt.mp h2) (List.not_lt.mp h1)
theorem headLt_swo (h : Heap) : SrtO.Swo (headLt h) where
  asym x y e := decide_eq_false fun z => List.lt_asymm (of_decide_eq_true e) z
  tr x y z e1 e2 := decide_eq_false fun q => by
    have a := of_decide_eq_false e1
    have b := of_decide_eq_false e2
    have c : headK h x ≤ headK h y := List.not_lt.mp a
    have d : headK h y ≤ headK h z := List.not_lt.mp b
    exact (List.not_lt.mpr (List.le_trans c d)) q
theorem eqBool_me {prog : Program} {w : World} {A : Around} {E : Value → Shared → Prop} {s : Shared} {v : Value} {Q : Bool → Shared → Prop} (q : Q true s) : wpAny (model prog w) A (eqBool v v) Q E s := by
  unfold eqBool
  refine wpAny_holding ?_
  rw [if_pos (by simp)]
  exact wpAny_bind (wpAny_rule (wpAny_pure q))
theorem lex_me {prog : Program} {w : World} {A : Around} {b fin : Bool} {Q : Bool → Shared → Prop} {s : Shared} (q : Q fin s) : ∀ (l : List Value) (i : Nat), PySem.W.KatLex prog w A b fin Q (l.zip l) i s
  | [], i => q
  | v :: l, i => PySem.W.kat_cons (eqBool_me (by
      show PySem.W.KatGo prog w A b fin Q v v (l.zip l) i true s
      unfold PySem.W.KatGo
      rw [if_pos rfl]
      exact lex_me q l (i + 1)))
/-- a tuple that begins with a text -/
def HeadAt (h : Heap) (e : Str × Addr) : Prop := ∃ (o : Obj) (its : Array Value) (n : Nat) (t : PySem.Tok) (r : List Value), h.get? e.2 = some o ∧ o.cls = .type "tuple" ∧ o.data = .seq its n ∧ its.toList = .str e.1 t :: r
theorem HeadAt.key {h : Heap} {e : Str × Addr} (x : HeadAt h e) : headK h (.ref e.2) = e.1.cps.toList := by
  obtain ⟨o, its, n, t, r, g, c, d, l⟩ := x
  have z : its[0]? = some (.str e.1 t) := by rw [← Array.getElem?_toList, l]; rfl
  unfold headK
  simp only [g, d, z]
theorem headTups {h : Heap} : ∀ {es : List (Str × Addr)}, (∀ e ∈ es, HeadAt h e) → ∃ fs : List Value, PySem.W.KatTups h (es.map fun e => Value.ref e.2) fs ∧ fs.length = es.length ∧ ∀ v ∈ fs, ∃ x t, v = Value.str x t
  | [], _ => ⟨[], trivial, rfl, fun _ z => (List.not_mem_nil z).elim⟩
  | e :: es, hs => by
    obtain ⟨fs, a, b, c⟩ := headTups (es := es) fun x hx => hs x (List.mem_cons_of_mem _ hx)
    obtain ⟨o, its, n, t, r, g, cl, d, l⟩ := hs e (List.mem_cons_self ..)
    refine ⟨.str e.1 t :: fs, ⟨⟨e.2, o, its, n, rfl, g, cl, d, by rw [← Array.getElem?_toList, l]; rfl⟩, a⟩, by simp [b], fun v hv => ?_⟩
    rcases List.mem_cons.mp hv with rfl | hv
    · exact ⟨_, _, rfl⟩
    · exact c v hv
theorem headSortable {prog : Program} {w : World} {A : Around} {s : Shared} {a : Addr} {es : List (Str × Addr)} (hs : ∀ e ∈ es, HeadAt s.heap e) (na : ∀ e ∈ es, e.2 ≠ a) (ne : es ≠ []) (nd : ∀ e ∈ es, ∀ e' ∈ es, e.1 = e'.1 → e = e') :
    SrtO.SortableO prog w A s a (es.map fun e => Value.ref e.2) (headLt s.heap) := by
  intro h' keep
  have hs' : ∀ e ∈ es, HeadAt h' e := fun e he => by
    obtain ⟨o, its, n, t, r, g, cl, d, l⟩ := hs e he
    exact ⟨o, its, n, t, r, keep _ _ (na e he) g, cl, d, l⟩
  obtain ⟨fs, kt, fl, strv⟩ := headTups hs'
  refine ⟨tuples' true, fun Q E q => ?_, ?_⟩
  · refine PySem.W.kat_kind (T := .type "str") (s := { heap := h', gens := s.gens, drawn := s.drawn, toks := s.toks, os := s.os }) kt (by rw [fl]; exact List.length_pos_iff.mpr ne) (fun v hv => ?_) (by decide) q
    obtain ⟨x, t, rfl⟩ := strv v hv
    intro A Q E s k q
    rw [PySem.typeOf.eq_7]
    exact wpAny_pure q
  · rintro ⟨p, p2⟩ ⟨q, q2⟩ hp hq
    obtain ⟨e, he, rfl⟩ := List.mem_map.mp hp
    obtain ⟨e', he', rfl⟩ := List.mem_map.mp hq
    obtain ⟨o, its, n, t, r, g, cl, d, l⟩ := hs' e he
    obtain ⟨o', its', n', t', r', g', cl', d', l'⟩ := hs' e' he'
    show wpAny _ _ (keyLt' (tuples' true) (.ref e.2) (.ref e'.2)) _ _ _
    refine PySem.W.kat_lt (s := { heap := h', gens := s.gens, drawn := s.drawn, toks := s.toks, os := s.os }) g d g' d' ?_
    by_cases ee : e = e'
    · subst ee
      rw [g] at g'
      cases g'
      rw [d] at d'
      cases d'
      refine lex_me ⟨rfl, ?_⟩ its.toList 0
      show decide (its.size < its.size) = headLt s.heap (.ref e.2) (.ref e.2)
      unfold headLt
      rw [decide_eq_false (Nat.lt_irrefl _), decide_eq_false (List.lt_irrefl _)]
    · have hne : e.1 ≠ e'.1 := fun z => ee (nd e he e' he' z)
      rw [l, l']
      refine PySem.W.kat_cons (wpAny_eqBool_str ?_)
      rw [decide_eq_false hne]
      show wpAny _ _ (oneLt' true (.str e.1 t) (.str e'.1 t')) _ _ _
      refine oneLt_str ⟨rfl, ?_⟩
      show decide (e.1.cps.toList < e'.1.cps.toList) = headLt s.heap (.ref e.2) (.ref e'.2)
      unfold headLt
      rw [(hs e he).key, (hs e' he').key]
theorem perm_map {α β : Type} {f : α → β} : ∀ {l m : List β}, l.Perm m → ∀ {es : List α}, l = es.map f → ∃ es' : List α, es'.Perm es ∧ m = es'.map f := by
  intro l m h
  induction h with
  | nil => exact fun {es} e => ⟨es, .refl _, e⟩
  | cons x h ih =>
    intro es e
    cases es with
    | nil => cases e
    | cons a es =>
      rw [List.map_cons] at e
      injection e with e1 e2
      obtain ⟨es', p, q⟩ := ih e2
      exact ⟨a :: es', p.cons a, by rw [e1, q]; rfl⟩
  | swap x y l =>
    intro es e
    cases es with
    | nil => cases e
    | cons a es =>
      cases es with
      | nil => cases e
      | cons b es =>
        rw [List.map_cons, List.map_cons] at e
        injection e with e1 e2
        injection e2 with e2 e3
        exact ⟨b :: a :: es, .swap a b es, by rw [e1, e2, e3]; rfl⟩
  | trans h1 h2 i1 i2 =>
    intro es e
    obtain ⟨es', p, q⟩ := i1 e
    obtain ⟨es2, p2, q2⟩ := i2 q
    exact ⟨es2, p2.trans p, q2⟩
def rSortedH (K : PySem.W.Frag) : List V → Hp → VK → Prop := fun xs H Q => ∃ (a : Addr) (es : List (Str × Addr)), xs = [.ref a] ∧ SqL K H a (es.map fun e => V.ref e.2) ∧ (∀ e ∈ es, ∃ r, SqT K H e.2 (.str e.1 :: r)) ∧ (es.map (·.1)).Nodup ∧
  ∀ (es' : List (Str × Addr)) (p : Addr), es'.Perm es → (es'.map (·.1)).Pairwise (fun x y => x.cps.toList < y.cps.toList) → H p = none → Q (.ref p) (upd H p (.lst (es'.map fun e => V.ref e.2)))
theorem cps_inj {x y : Str} (h : x.cps.toList = y.cps.toList) : x = y := by
  cases x; cases y
  simp only [Str.mk.injEq]
  exact Array.ext' h
theorem cr_sortedH {X : Cx} : CallR X (.builtin "sorted") (rSortedH X.K) := by
  intro pins s σ H xs us Q I r q
  obtain ⟨a, es, rfl, hl, heads, nd, q⟩ := q
  obtain ⟨u, rfl, rx⟩ := vals1 r
  cases rx
  obtain ⟨its, rv, pl, hz⟩ := I.list hl
  have ei : its = es.map fun e => Value.ref e.2 := by
    have e0 : (es.map fun e => V.ref e.2) = (es.map (·.2)).map V.ref := by rw [List.map_map]; rfl
    rw [e0] at rv
    rw [refs_at rv, List.map_map]
    rfl
  subst ei
  rw [List.length_map] at hz
  have hs : ∀ e ∈ es, HeadAt s.heap e := fun e he => by
    obtain ⟨r, ht⟩ := heads e he
    obtain ⟨its, rv, ⟨o, ho, hc, n, hd⟩, _⟩ := I.tuple ht
    cases rv with
    | cons r1 r2 =>
      obtain ⟨t, rfl⟩ := r1
      exact ⟨o, _, n, t, _, ho, hc, hd, rfl⟩
  refine Calls.call_function_entry PyProof.Rows.kind_sorted PyProof.Rows.plain_sorted PyProof.Rows.entry_sorted (PyProof.Rows.args_sorted1 _) ?_
  unfold Builtin.«sorted»
  refine wpAny_bind (m := checkCount "sorted" 1 1 _) (wpAny_pure ?_)
  refine wpAny_bind (collect_list pl.isList ?_ (by rw [List.length_map]; exact hz))
  have keep : ∀ (b : Addr) (u : Obj), s.heap.get? b = some u → ((s.heap.push (seqObj "list" #[] 0)).update s.heap.objs.size (Obj.mapSeq fun x => x ++ (es.map fun e => Value.ref e.2).toArray)).get? b = some u := fun b u e => by
    have lt : b < s.heap.objs.size := Heap.lt_size e
    rw [Heap.get?_update_ne _ _ _ _ (Nat.ne_of_lt lt)]
    exact Heap.get?_push_of_some _ e
  generalize (s.heap.push (seqObj "list" #[] 0)).update s.heap.objs.size (Obj.mapSeq fun x => x ++ (es.map fun e => Value.ref e.2).toArray) = h1 at keep
  have I1 : L2.Inv X pins σ H { s with heap := h1 } := I.kept (t' := s.toks) keep
  refine wpAny_bind (wpAny_newList ?_ (by rw [List.length_map]; exact hz))
  have new : (h1.push (seqObj "list" (es.map fun e => Value.ref e.2).toArray 0)).get? h1.objs.size = some (seqObj "list" (es.map fun e => Value.ref e.2).toArray 0) := Heap.get?_push_size _ rfl
  show wpAny _ _ _ _ _ { s with heap := h1.push (seqObj "list" (es.map fun e => Value.ref e.2).toArray 0) }
  have hs1 : ∀ e ∈ es, HeadAt (h1.push (seqObj "list" (es.map fun e => Value.ref e.2).toArray 0)) e := fun e he => by
    obtain ⟨o, its, n, t, r, g, cl, d, l⟩ := hs e he
    exact ⟨o, its, n, t, r, Heap.get?_push_of_some _ (keep _ _ g), cl, d, l⟩
  have na : ∀ e ∈ es, e.2 ≠ h1.objs.size := fun e he z => by
    obtain ⟨o, its, n, t, r, g, _⟩ := hs e he
    exact absurd z (Nat.ne_of_lt (Heap.lt_size (keep _ _ g)))
  have nd' : ∀ e ∈ es, ∀ e' ∈ es, e.1 = e'.1 → e = e' := fun e he e' he' z => by
    obtain ⟨i, hi, e1⟩ := List.getElem_of_mem he
    obtain ⟨j, hj, e2⟩ := List.getElem_of_mem he'
    have ij : i = j := by
      have x1 : (es.map (·.1))[i]? = some e.1 := by rw [List.getElem?_map, List.getElem?_eq_getElem hi, e1]; rfl
      have x2 : (es.map (·.1))[j]? = some e.1 := by rw [List.getElem?_map, List.getElem?_eq_getElem hj, e2, z]; rfl
      exact (List.getElem?_inj (by rw [List.length_map]; exact hi) nd).mp (x1.trans x2.symm)
    subst ij
    rw [← e1, ← e2]
  have lt0 : (es.map fun e => Value.ref e.2).length ≤ sizeLine := by rw [List.length_map]; exact hz
  have key : 2 ≤ (es.map fun e => Value.ref e.2).length → SrtO.SortableO X.prog X.w X.A.in1.in1 { s with heap := h1.push (seqObj "list" (es.map fun e => Value.ref e.2).toArray 0) } h1.objs.size (es.map fun e => Value.ref e.2) (headLt (h1.push (seqObj "list" (es.map fun e => Value.ref e.2).toArray 0))) := fun l2 =>
    headSortable (s := { s with heap := h1.push (seqObj "list" (es.map fun e => Value.ref e.2).toArray 0) }) hs1 na (fun z => by rw [z] at l2; simp at l2) nd'
  have swo := headLt_swo (h1.push (seqObj "list" (es.map fun e => Value.ref e.2).toArray 0))
  generalize hlt : headLt (h1.push (seqObj "list" (es.map fun e => Value.ref e.2).toArray 0)) = ltv at key swo
  refine wpAny_bind (wpAny_holding (wpAny_call_entry PyProof.Rows.slot_list_sort ⟨_, new, rfl⟩ PyProof.Rows.entry_list_sort
    (SrtO.list_sort_ord (s := { s with heap := h1.push (seqObj "list" (es.map fun e => Value.ref e.2).toArray 0) }) swo new lt0 key fun out srt stb => ⟨_, rfl, ?_⟩) (PyProof.Rows.args_list_sort _)))
  obtain ⟨es', pe, rfl⟩ := perm_map stb.perm.symm (f := fun e : Str × Addr => Value.ref e.2) (es := es) rfl
  have me : ∀ e ∈ es', e ∈ es := fun e he => pe.mem_iff.mp he
  have sr : (es'.map (·.1)).Pairwise (fun x y => x.cps.toList < y.cps.toList) := by
    have nd2 : (es'.map (·.1)).Nodup := (pe.map _).nodup_iff.mpr nd
    rw [List.pairwise_map]
    have a : es'.Pairwise (fun x y => x.1 ≠ y.1) := by
      have := nd2
      unfold List.Nodup at this
      rwa [List.pairwise_map] at this
    have b : es'.Pairwise (fun x y => ltv (.ref y.2) (.ref x.2) = false) := by
      have := srt
      unfold SrtO.Srtd at this
      rwa [List.pairwise_map] at this
    refine (a.and b).imp_of_mem fun {x y} hx hy ⟨n, l⟩ => ?_
    rw [← hlt] at l
    unfold headLt at l
    rw [(hs1 x (me x hx)).key, (hs1 y (me y hy)).key] at l
    have l' := of_decide_eq_false l
    by_cases z : x.1.cps.toList < y.1.cps.toList
    · exact z
    · exact absurd (cps_inj (lst_anti z l')) n
  obtain ⟨c, hcc⟩ := PyProof.Rows.sortedHeap_at (vs := es.map fun e => Value.ref e.2) (out := (es'.map fun e => Value.ref e.2).toArray) new
  have yl : (es'.map fun e => V.ref e.2).length ≤ sizeLine := by
    rw [List.length_map, pe.length_eq]
    exact hz
  have vals : ∀ l : List (Str × Addr), Vals (l.map fun e => V.ref e.2) (l.map fun e => Value.ref e.2) := fun l => by
    induction l with
    | nil => exact .nil
    | cons x l ih => exact .cons rfl ih
  refine wpAny_pure ⟨_, rfl, .ref h1.objs.size, upd H h1.objs.size (.lst (es'.map fun e => V.ref e.2)), I1.laid (t' := s.toks) (fun b u e => ?_) (Nat.le_refl _)
    (show ObjOk X.prog X.w _ _ _ (.lst (es'.map fun e => V.ref e.2)) from ⟨yl, (es'.map fun e => Value.ref e.2), c, vals es', hcc⟩), rfl, q es' _ pe sr (I1.hok.fresh (Nat.le_refl _))⟩
  have lt : b < h1.objs.size := Heap.lt_size e
  rw [PyProof.Rows.sortedHeap_old (Nat.ne_of_lt lt) (by rw [Heap.size_push]; exact Nat.lt_succ_of_lt lt)]
  exact Heap.get?_push_of_some _ e
end Mine

set_option Elab.async false
set_option linter.all false
set_option maxRecDepth 100000
set_option maxHeartbeats 4000000
/-! A def of the text with its promise, as one word; built-ins that still stand; new objects. -/
namespace Mine
open PySem PySem.Spec PyProof.Rows L2
/-- the built-ins are not shadowed -/
structure Bi (mg : Str → Option Value) : Prop where
  len : mg "len" = none
  list : mg "list" = none
  tuple : mg "tuple" = none
  range : mg "range" = none
  isinstance : mg "isinstance" = none
  str : mg "str" = none
  int : mg "int" = none
  bool : mg "bool" = none
  all : mg "all" = none
  any : mg "any" = none
  zip : mg "zip" = none
  dict : mg "dict" = none
  set : mg "set" = none
  sorted : mg "sorted" = none
  reversed : mg "reversed" = none
  enumerate : mg "enumerate" = none
  repr : mg "repr" = none
  sum : mg "sum" = none
  min : mg "min" = none
  max : mg "max" = none
/-- a def stands under this name and keeps this promise -/
def Use (P : Program) (w : World) (K : PySem.W.Frag) (mg : Str → Option Value) (base : Heap) (k : Nat) (x : Str) (ps : List Str) (sp : Sp) : Prop :=
  ∃ (f : Addr) (fd : FuncData), FnOk P w K mg base CX0 k f fd ps sp ∧ Binds K fd ps [] ∧ mg x = some (.ref f) ∧ PySem.W.keepIn K (.ref f) = true
def UseG (P : Program) (w : World) (K : PySem.W.Frag) (mg : Str → Option Value) (base : Heap) (k : Nat) (x : Str) (ps : List Str) (sp : Sp) : Prop :=
  ∃ (f : Addr) (fd : FuncData), FnG P w K mg base k f fd ps sp ∧ Binds K fd ps [] ∧ mg x = some (.ref f) ∧ PySem.W.keepIn K (.ref f) = true
theorem Use.mono {P : Program} {w : World} {K : PySem.W.Frag} {mg : Str → Option Value} {base : Heap} {j k : Nat} {x : Str} {ps : List Str} {sp : Sp} (h : j ≤ k) : Use P w K mg base j x ps sp → Use P w K mg base k x ps sp
  | ⟨f, fd, F, b, m, kp⟩ => ⟨f, fd, F.mono h, b, m, kp⟩
theorem Use.imp {P : Program} {w : World} {K : PySem.W.Frag} {mg : Str → Option Value} {base : Heap} {k : Nat} {x : Str} {ps : List Str} {sp sp' : Sp} (h : ∀ vs H Q E, sp' vs H Q E → sp vs H Q E) : Use P w K mg base k x ps sp → Use P w K mg base k x ps sp'
  | ⟨f, fd, F, b, m, kp⟩ => ⟨f, fd, F.imp h, b, m, kp⟩
section
variable {X : Cx} {k : Nat} {ps : List Str} {sp : Sp} {x : Str} {p pos : Pos} {e : Expr} {es : List Expr} {t : L2.TA}
def tUse (sp : Sp) (t : L2.TA) : L2.TE := fun σ H Q => t σ H fun vs H1 => sp vs H1 Q E0
def tUse0 (sp : Sp) : L2.TE := fun σ H Q => sp [] H Q E0
theorem pe_use (U : Use X.prog X.w X.K X.mg X.base k x ps sp) (hr : Room k X.A) (hg : Gl X x) (ha : PA X (e :: es) t) (hdb : (x == (PySem.Str.ofString "__debug__")) = false := by decide) (he : starEach (e :: es) X.env = (false, eval e X.env) :: starEach es X.env := by rfl) (hpl : (backTo pos (starEach es X.env)).any (·.1) = false := by rfl) :
    PE X (.Call (.Name x p) (e :: es) [] pos) (tUse sp t) := by
  obtain ⟨f, fd, F, b, m, kp⟩ := U
  have h : PE X (.Call (.Name x p) (e :: es) [] pos) (tCall sp [] E0 t) := pe_call F hr hg m kp b .nil pass0 ha hdb he hpl
  have e : tCall sp [] E0 t = tUse sp t := by
    unfold tCall tUse
    funext σ H Q
    congr 1
    funext vs H1
    rw [List.append_nil]
  rw [e] at h
  exact h
theorem pe_use0 (U : Use X.prog X.w X.K X.mg X.base k x ps sp) (hr : Room k X.A) (hg : Gl X x) (hdb : (x == (PySem.Str.ofString "__debug__")) = false := by decide) :
    PE X (.Call (.Name x p) [] [] pos) (tUse0 sp) := by
  obtain ⟨f, fd, F, b, m, kp⟩ := U
  exact pe_call0 F hr hg m kp b .nil pass0 hdb
theorem pe_useG (U : UseG X.prog X.w X.K X.mg X.base k x ps sp) (hr : Room k X.A) (hgd : X.A.guards = some []) (hg : Gl X x) (ha : PA X (e :: es) t) (hdb : (x == (PySem.Str.ofString "__debug__")) = false := by decide) (he : starEach (e :: es) X.env = (false, eval e X.env) :: starEach es X.env := by rfl) (hpl : (backTo pos (starEach es X.env)).any (·.1) = false := by rfl) :
    PE X (.Call (.Name x p) (e :: es) [] pos) (tUse sp t) := by
  obtain ⟨f, fd, F, b, m, kp⟩ := U
  exact pe_callG F hr hgd hg m kp b ha hdb he hpl
end
theorem same_of_upd {H H1 : Hp} {p : Addr} {o : HO} (h : H p = none) (e : upd H p o = H1) : Same H H1 := fun b u z => by
  rw [← e]
  exact (upd_ne (ne_of_none z h)).trans z
theorem at_of_upd {H H1 : Hp} {p : Addr} {o : HO} (e : upd H p o = H1) : H1 p = some o := by
  rw [← e]
  exact upd_same
end Mine

set_option Elab.async false
set_option linter.all false
set_option maxRecDepth 100000
set_option maxHeartbeats 1000000
/-! Where ways meet: what holds behind a statement (an expression), said once. -/
namespace Mine
open PySem PySem.Spec PyProof.Rows L2
def tCutS (t : TS) : TS := fun D σ H => ∃ R : L2.St → Hp → Prop, t { D with nx := R } σ H ∧ ∀ σ' H', R σ' H' → D.nx σ' H'
theorem ps_cut {X : Cx} {st : Stmt} {t : TS} (h : PS X st t) : PS X st (tCutS t) := by
  refine ⟨fun pins s σ H D I ⟨R, h1, h2⟩ => ?_⟩
  refine thn (h.run pins s σ H _ I h1) fun fl s' hs => ?_
  cases fl with
  | next =>
    obtain ⟨σ', H', J, q⟩ := hs
    exact ⟨σ', H', J, h2 _ _ q⟩
  | ret u => exact hs
  | brk => exact hs
  | cont => exact hs
def tCutE (t : TE) : TE := fun σ H Q => ∃ R : V → Hp → Prop, t σ H R ∧ ∀ v H', R v H' → Q v H'
theorem pe_cut {X : Cx} {e : Expr} {t : TE} (h : PE X e t) : PE X e (tCutE t) := by
  refine ⟨fun pins s σ H Q I ⟨R, h1, h2⟩ => ?_⟩
  refine thn (h.run pins s σ H _ I h1) fun u s' ⟨v, H', J, r, q⟩ => ⟨v, H', J, r, h2 _ _ q⟩
def tCutT (t : TT) : TT := fun σ H Q => ∃ R : Bool → Hp → Prop, t σ H R ∧ ∀ b H', R b H' → Q b H'
theorem pt_cut {X : Cx} {e : Expr} {t : TT} (h : PT X e t) : PT X e (tCutT t) := by
  refine ⟨fun pins s σ H Q I ⟨R, h1, h2⟩ => ?_⟩
  refine thn (h.run pins s σ H _ I h1) fun u s' ⟨H', J, q⟩ => ⟨H', J, h2 _ _ q⟩
end Mine

set_option Elab.async false
set_option linter.all false
set_option maxRecDepth 100000
set_option maxHeartbeats 4000000
/-! Texts asked by methods: isascii, isalpha, islower, isalnum, isdigit, capitalize; words, names, numbers so. -/
namespace Mine
open PySem PySem.Spec PyProof.Rows L2
def azL : Str := PySem.Str.ofString "abcdefghijklmnopqrstuvwxyz"
def azU : Str := PySem.Str.ofString "ABCDEFGHIJKLMNOPQRSTUVWXYZ"
def dig10 : Str := PySem.Str.ofString "0123456789"
theorem az_iff (c : Nat) : c ∈ azL.cps.toList ↔ 97 ≤ c ∧ c ≤ 122 := by
  rw [show azL.cps.toList = List.range' 97 26 by decide +kernel, List.mem_range'_1]; omega
theorem aU_iff (c : Nat) : c ∈ azU.cps.toList ↔ 65 ≤ c ∧ c ≤ 90 := by
  rw [show azU.cps.toList = List.range' 65 26 by decide +kernel, List.mem_range'_1]; omega
theorem d10_iff (c : Nat) : c ∈ dig10.cps.toList ↔ 48 ≤ c ∧ c ≤ 57 := by
  rw [show dig10.cps.toList = List.range' 48 10 by decide +kernel, List.mem_range'_1]; omega
theorem tabA : (List.range 128).all (fun c => (Unicode.isAlpha c && !(Unicode.isUpper c || Unicode.isTitle c)) == decide (97 ≤ c ∧ c ≤ 122)) = true := by decide +kernel
theorem tabL : (List.range 128).all (fun c => (!decide (97 ≤ c ∧ c ≤ 122)) || Unicode.isLower c) = true := by decide +kernel
theorem tabN : (List.range 128).all (fun c => Unicode.isAlnum c == decide ((97 ≤ c ∧ c ≤ 122) ∨ (65 ≤ c ∧ c ≤ 90) ∨ (48 ≤ c ∧ c ≤ 57))) = true := by decide +kernel
theorem tabD : (List.range 128).all (fun c => Unicode.isDigit c == decide (48 ≤ c ∧ c ≤ 57)) = true := by decide +kernel
theorem tabLo : (List.range 128).all (fun c => Unicode.lowerOf c == [if 65 ≤ c ∧ c ≤ 90 then c + 32 else c]) = true := by decide +kernel
theorem tabTi : (List.range 128).all (fun c => (!decide (65 ≤ c ∧ c ≤ 90)) || Unicode.titleOf c == [c]) = true := by decide +kernel
theorem of_tab {p : Nat → Bool} (h : (List.range 128).all p = true) {c : Nat} (hc : c < 128) : p c = true := List.all_eq_true.mp h c (List.mem_range.mpr hc)
theorem uA {c : Nat} (h : c < 128) : (Unicode.isAlpha c && !(Unicode.isUpper c || Unicode.isTitle c)) = decide (97 ≤ c ∧ c ≤ 122) := beq_iff_eq.mp (of_tab tabA h)
theorem uL {c : Nat} (h : 97 ≤ c ∧ c ≤ 122) : Unicode.isLower c = true := by
  have := of_tab tabL (c := c) (by omega)
  rw [decide_eq_true h] at this
  exact this
theorem uN {c : Nat} (h : c < 128) : Unicode.isAlnum c = decide ((97 ≤ c ∧ c ≤ 122) ∨ (65 ≤ c ∧ c ≤ 90) ∨ (48 ≤ c ∧ c ≤ 57)) := beq_iff_eq.mp (of_tab tabN h)
theorem uD {c : Nat} (h : c < 128) : Unicode.isDigit c = decide (48 ≤ c ∧ c ≤ 57) := beq_iff_eq.mp (of_tab tabD h)
theorem uLo {c : Nat} (h : c < 128) : Unicode.lowerOf c = [if 65 ≤ c ∧ c ≤ 90 then c + 32 else c] := beq_iff_eq.mp (of_tab tabLo h)
theorem uTi {c : Nat} (h : 65 ≤ c ∧ c ≤ 90) : Unicode.titleOf c = [c] := by
  have := of_tab tabTi (c := c) (by omega)
  rw [decide_eq_true h] at this
  exact beq_iff_eq.mp this
theorem aall (x : Str) (p : Nat → Bool) : x.cps.all p = x.cps.toList.all p := by rw [Array.all_toList]
theorem aany (x : Str) (p : Nat → Bool) : x.cps.any p = x.cps.toList.any p := by rw [Array.any_toList]
/-- a word by methods -/
theorem word_by (x : Str) : (Txt.isascii x && (Txt.isalpha x && Txt.islower x)) = (decide (1 ≤ x.length) && x.cps.toList.all fun c => decide (c ∈ azL.cps.toList)) := by
  have e : ∀ c, decide (c ∈ azL.cps.toList) = decide (97 ≤ c ∧ c ≤ 122) := fun c => by
    by_cases h : 97 ≤ c ∧ c ≤ 122
    · rw [decide_eq_true h, decide_eq_true ((az_iff c).mpr h)]
    · rw [decide_eq_false h, decide_eq_false fun z => h ((az_iff c).mp z)]
  rw [show (fun c => decide (c ∈ azL.cps.toList)) = fun c => decide (97 ≤ c ∧ c ≤ 122) from funext e]
  unfold Txt.isascii Txt.isalpha Txt.islower
  rw [aall, aall, aany, aany]
  have hl : x.length = x.cps.toList.length := by simp [Str.length]
  rw [hl]
  generalize x.cps.toList = l
  rw [Bool.eq_iff_iff]
  simp only [Bool.and_eq_true, List.all_eq_true, decide_eq_true_eq, Bool.not_eq_true', List.any_eq_false, List.any_eq_true]
  constructor
  · rintro ⟨h1, ⟨h2, h3⟩, h4, h5⟩
    refine ⟨h2, fun c hc => ?_⟩
    have := uA (h1 c hc)
    rw [h3 c hc] at this
    have h5 := h5 c hc
    rw [Bool.eq_false_iff.mpr h5] at this
    exact of_decide_eq_true this.symm
  · rintro ⟨h1, h2⟩
    have k : ∀ c ∈ l, Unicode.isAlpha c = true ∧ (Unicode.isUpper c || Unicode.isTitle c) = false := fun c hc => by
      have := uA (c := c) (by have := h2 c hc; omega)
      rw [decide_eq_true (h2 c hc)] at this
      have := Bool.and_eq_true_iff.mp this
      exact ⟨this.1, by simpa using this.2⟩
    refine ⟨fun c hc => by have := h2 c hc; omega, ⟨h1, fun c hc => (k c hc).1⟩, ?_, fun c hc => by rw [(k c hc).2]; decide⟩
    cases l with
    | nil => simp at h1
    | cons c r => exact ⟨c, List.mem_cons_self, uL (h2 c List.mem_cons_self)⟩
/-- digits by methods -/
theorem digs_by (x : Str) : (Txt.isascii x && Txt.isdigit x) = (decide (1 ≤ x.length) && x.cps.toList.all fun c => decide (c ∈ dig10.cps.toList)) := by
  have e : ∀ c, decide (c ∈ dig10.cps.toList) = decide (48 ≤ c ∧ c ≤ 57) := fun c => by
    by_cases h : 48 ≤ c ∧ c ≤ 57
    · rw [decide_eq_true h, decide_eq_true ((d10_iff c).mpr h)]
    · rw [decide_eq_false h, decide_eq_false fun z => h ((d10_iff c).mp z)]
  rw [show (fun c => decide (c ∈ dig10.cps.toList)) = fun c => decide (48 ≤ c ∧ c ≤ 57) from funext e]
  unfold Txt.isascii Txt.isdigit
  rw [aall, aall]
  have hl : x.length = x.cps.toList.length := by simp [Str.length]
  rw [hl]
  generalize x.cps.toList = l
  rw [Bool.eq_iff_iff]
  simp only [Bool.and_eq_true, List.all_eq_true, decide_eq_true_eq]
  constructor
  · rintro ⟨h1, h2, h3⟩
    refine ⟨h2, fun c hc => ?_⟩
    have := uD (h1 c hc)
    rw [h3 c hc] at this
    exact of_decide_eq_true this.symm
  · rintro ⟨h1, h2⟩
    exact ⟨fun c hc => by have := h2 c hc; omega, h1, fun c hc => by rw [uD (by have := h2 c hc; omega)]; exact decide_eq_true (h2 c hc)⟩
/-- a list of signs with the first one as it is and the others small -/
theorem cap_low {l : List Nat} (hl : ∀ c ∈ l, c < 128) : (l.flatMap Unicode.lowerOf = l) ↔ ∀ c ∈ l, ¬ (65 ≤ c ∧ c ≤ 90) := by
  induction l with
  | nil => simp
  | cons c r ih =>
    have ih := ih fun d hd => hl d (List.mem_cons_of_mem _ hd)
    rw [List.flatMap_cons, uLo (hl c List.mem_cons_self)]
    simp only [List.singleton_append, List.cons.injEq, ih, List.forall_mem_cons]
    by_cases h : 65 ≤ c ∧ c ≤ 90
    · rw [if_pos h]
      constructor
      · rintro ⟨z, _⟩; omega
      · rintro ⟨z, _⟩; exact absurd h z
    · rw [if_neg h]
      simp [h]
theorem map_idx_const {α β : Type} (f : α → β) : ∀ l : List α, l.mapIdx (fun _ a => f a) = l.map f := fun l => by
  refine List.ext_getElem? fun i => ?_
  rw [List.getElem?_mapIdx, List.getElem?_map]
theorem cap_list {x : Str} {c : Nat} {r : List Nat} (hx : x.cps.toList = c :: r) (h : ∀ d ∈ x.cps.toList, d < 128) :
    (Txt.capitalize x).cps.toList = Unicode.titleOf c ++ r.flatMap Unicode.lowerOf := by
  have hl : (x.length == 0) = false := by
    have : x.length = x.cps.toList.length := by simp [Str.length]
    rw [this, hx]
    rfl
  unfold Txt.capitalize
  rw [hl]
  show (placed x _).toList = _
  unfold placed
  rw [Array.toList_flatten, Array.toList_mapIdx]
  have e : List.map Array.toList (x.cps.toList.mapIdx (fun i d => (((if (i == 0) = true then Unicode.titleOf d else Unicode.lowerAt x.cps i)).toArray))) = x.cps.toList.mapIdx (fun i d => if i = 0 then Unicode.titleOf d else Unicode.lowerOf d) := by
    refine List.ext_getElem? fun i => ?_
    rw [List.getElem?_map, List.getElem?_mapIdx, List.getElem?_mapIdx]
    cases q : x.cps.toList[i]? with
    | none => rfl
    | some d =>
      have hd := h d (List.mem_of_getElem? q)
      have la : Unicode.lowerAt x.cps i = Unicode.lowerOf d := by
        unfold Unicode.lowerAt
        rw [← Array.getElem?_toList, q]
        show (if (d == 0x3A3 && _) = true then _ else _) = _
        rw [show (d == 0x3A3) = false by simp; omega, Bool.false_and]
        rfl
      show some _ = some _
      by_cases z : i = 0
      · subst z; rfl
      · show some ((if (i == 0) = true then Unicode.titleOf d else Unicode.lowerAt x.cps i).toArray.toList) = some (if i = 0 then Unicode.titleOf d else Unicode.lowerOf d)
        rw [if_neg z, if_neg (by simpa using z), la]
  refine (congrArg List.flatten e).trans ?_
  rw [hx, List.mapIdx_cons, if_pos rfl, List.flatten_cons]
  congr 1
  rw [show (fun (i : Nat) (d : Nat) => if i + 1 = 0 then Unicode.titleOf d else Unicode.lowerOf d) = fun _ d => Unicode.lowerOf d from funext fun i => funext fun d => if_neg (by omega), map_idx_const, List.flatMap_def]
theorem str_list {x y : Str} : x = y ↔ x.cps.toList = y.cps.toList := by
  constructor
  · rintro rfl; rfl
  · intro h
    cases x with
    | mk a => cases y with
      | mk b => have : a = b := Array.toList_inj.mp h
                rw [this]
/-- a name by methods -/
theorem name_not {x : Str} {c : Nat} {r : List Nat} (hx : x.cps.toList = c :: r) (h : (Txt.isascii x && Txt.isalnum x) = false) :
    (decide (c ∈ azU.cps.toList) && r.all fun d => decide (d ∈ azL.cps.toList) || decide (d ∈ dig10.cps.toList)) = false := by
  rw [Bool.eq_false_iff]
  intro z
  simp only [Bool.and_eq_true, List.all_eq_true, decide_eq_true_eq, Bool.or_eq_true, az_iff, aU_iff, d10_iff] at z
  have hl : x.length = x.cps.toList.length := by simp [Str.length]
  have : (Txt.isascii x && Txt.isalnum x) = true := by
    unfold Txt.isascii Txt.isalnum
    rw [aall, aall, hl, hx]
    simp only [Bool.and_eq_true, List.all_eq_true, decide_eq_true_eq]
    have k : ∀ d ∈ c :: r, (97 ≤ d ∧ d ≤ 122) ∨ (65 ≤ d ∧ d ≤ 90) ∨ (48 ≤ d ∧ d ≤ 57) := fun d hd => by
      rcases List.mem_cons.mp hd with rfl | hd
      · exact .inr (.inl z.1)
      · rcases z.2 d hd with q | q
        · exact .inl q
        · exact .inr (.inr q)
    exact ⟨fun d hd => by have := k d hd; omega, by simp, fun d hd => by rw [uN (by have := k d hd; omega)]; exact decide_eq_true (k d hd)⟩
  rw [this] at h
  cases h
theorem name_by {x : Str} {c : Nat} {r : List Nat} (hx : x.cps.toList = c :: r) (h : (Txt.isascii x && Txt.isalnum x) = true) :
    (decide (65 ≤ c ∧ c ≤ 90) && decide (x = Txt.capitalize x)) = (decide (c ∈ azU.cps.toList) && r.all fun d => decide (d ∈ azL.cps.toList) || decide (d ∈ dig10.cps.toList)) := by
  have h := Bool.and_eq_true_iff.mp h
  unfold Txt.isascii Txt.isalnum at h
  rw [aall, aall] at h
  have ha : ∀ d ∈ x.cps.toList, d < 128 := fun d hd => of_decide_eq_true (List.all_eq_true.mp h.1 d hd)
  have hn : ∀ d ∈ x.cps.toList, (97 ≤ d ∧ d ≤ 122) ∨ (65 ≤ d ∧ d ≤ 90) ∨ (48 ≤ d ∧ d ≤ 57) := fun d hd => by
    have := List.all_eq_true.mp (Bool.and_eq_true_iff.mp h.2).2 d hd
    rw [uN (ha d hd)] at this
    exact of_decide_eq_true this
  by_cases hc : 65 ≤ c ∧ c ≤ 90
  · rw [decide_eq_true hc, decide_eq_true ((aU_iff c).mpr hc), Bool.true_and, Bool.true_and, Bool.eq_iff_iff, decide_eq_true_eq, str_list, cap_list hx ha, uTi hc, hx]
    have := cap_low (l := r) fun d hd => ha d (by rw [hx]; exact List.mem_cons_of_mem _ hd)
    rw [List.singleton_append, List.cons.injEq, eq_comm (a := r), this]
    simp only [true_and, List.all_eq_true, Bool.or_eq_true, decide_eq_true_eq, az_iff, d10_iff]
    constructor
    · intro z d hd
      have k1 := z d hd
      rcases hn d (by rw [hx]; exact List.mem_cons_of_mem _ hd) with q | q | q
      · exact .inl q
      · exact absurd q k1
      · exact .inr q
    · intro z d hd
      have := z d hd
      omega
  · rw [decide_eq_false hc, decide_eq_false fun z => hc ((aU_iff c).mp z)]
    rfl
/-- one sign between two others -/
theorem sign_ge {a b : Nat} : (decide (([a] : List Nat) < [b])) = decide (a < b) := by
  by_cases h : a < b
  · rw [decide_eq_true h, decide_eq_true (show ([a] : List Nat) < [b] from List.Lex.rel h)]
  · rw [decide_eq_false h, decide_eq_false]
    intro z
    cases z with
    | rel z => exact h z
    | cons z => cases z
end Mine

set_option Elab.async false
set_option linter.all false
set_option maxRecDepth 100000
set_option maxHeartbeats 4000000
/-! Things as data: parts, pieces, sizes, texts. -/
namespace Mine
open PySem PySem.Spec PyProof.Rows L2 TL
/-- the parts of a thing -/
def kids : PyData → List PyData
  | .tuple (_ :: ds) => ds
  | _ => []
mutual
/-- a word or name, or a kind and at least one part -/
def thing : PyData → Bool
  | .str _ => true
  | .tuple (.str _ :: d :: ds) => thing d && thingAll ds
  | _ => false
def thingAll : List PyData → Bool
  | [] => true
  | d :: ds => thing d && thingAll ds
end
theorem thingAll_iff {ds : List PyData} : thingAll ds = true ↔ ∀ d ∈ ds, thing d = true := by
  induction ds with
  | nil => simp [thingAll]
  | cons d ds ih => simp only [thingAll, Bool.and_eq_true, ih, List.mem_cons, forall_eq_or_imp]
theorem thing_cases {d : PyData} (h : thing d = true) : (∃ c, d = .str c) ∨ ∃ c ps, d = .tuple (.str c :: ps) ∧ ps ≠ [] ∧ ∀ p ∈ ps, thing p = true := by
  cases d with
  | str c => exact .inl ⟨c, rfl⟩
  | tuple ds =>
    match ds, h with
    | .str c :: p :: ps, h =>
      refine .inr ⟨c, p :: ps, rfl, List.cons_ne_nil _ _, ?_⟩
      have h' : thing p = true ∧ thingAll ps = true := by simpa [thing] using h
      intro x hx
      rcases List.mem_cons.mp hx with rfl | hx
      · exact h'.1
      · exact thingAll_iff.mp h'.2 x hx
    | [], h => simp [thing] at h
    | [x], h => cases x <;> simp [thing] at h
    | .none :: _ :: _, h => simp [thing] at h
    | .bool _ :: _ :: _, h => simp [thing] at h
    | .int _ :: _ :: _, h => simp [thing] at h
    | .list _ :: _ :: _, h => simp [thing] at h
    | .tuple _ :: _ :: _, h => simp [thing] at h
    | .dict _ :: _ :: _, h => simp [thing] at h
  | none => simp [thing] at h
  | bool _ => simp [thing] at h
  | int _ => simp [thing] at h
  | list _ => simp [thing] at h
  | dict _ => simp [thing] at h
theorem thing_kids {d p : PyData} (h : thing d = true) (hp : p ∈ kids d) : thing p = true := by
  rcases thing_cases h with ⟨c, rfl⟩ | ⟨c, ps, rfl, _, e⟩
  · exact (List.not_mem_nil hp).elim
  · exact e p hp
mutual
/-- all pieces, wholes ahead of their parts -/
def lot : PyData → List PyData
  | .tuple [] => [.tuple []]
  | .tuple (k :: ds) => .tuple (k :: ds) :: lots ds
  | d => [d]
def lots : List PyData → List PyData
  | [] => []
  | d :: ds => lot d ++ lots ds
end
theorem lots_eq (ds : List PyData) : lots ds = ds.flatMap lot := by
  induction ds with
  | nil => simp [lots]
  | cons d ds ih => simp [lots, ih]
theorem lot_eq (d : PyData) : lot d = d :: (kids d).flatMap lot := by
  cases d with
  | tuple ds =>
    cases ds with
    | nil => simp [lot, kids]
    | cons k ds => simp [lot, kids, lots_eq]
  | none => simp [lot, kids]
  | bool _ => simp [lot, kids]
  | int _ => simp [lot, kids]
  | str _ => simp [lot, kids]
  | list _ => simp [lot, kids]
  | dict _ => simp [lot, kids]
def sz (d : PyData) : Nat := (lot d).length
theorem sz_pos (d : PyData) : 1 ≤ sz d := by
  unfold sz
  rw [lot_eq]
  simp
mutual
/-- the text of a thing -/
def txt : PyData → Str
  | .str c => c
  | .tuple (.str c :: ds) => c ++ PySem.Str.ofString "(" ++ Str.join (PySem.Str.ofString ",") (txts ds) ++ PySem.Str.ofString ")"
  | _ => Str.empty
def txts : List PyData → List Str
  | [] => []
  | d :: ds => txt d :: txts ds
end
theorem txts_eq (ds : List PyData) : txts ds = ds.map txt := by
  induction ds with
  | nil => simp [txts]
  | cons d ds ih => simp [txts, ih]
theorem txt_tup (c : Str) (ds : List PyData) : txt (.tuple (.str c :: ds)) = c ++ PySem.Str.ofString "(" ++ Str.join (PySem.Str.ofString ",") (ds.map txt) ++ PySem.Str.ofString ")" := by
  rw [← txts_eq]
  simp only [txt]
theorem txt_str (c : Str) : txt (.str c) = c := by simp only [txt]
/-- the pieces of some things as a worklist lists them -/
structure Bfs (ts P : List PyData) : Prop where
  eq : P = ts ++ P.flatMap kids
  far : ∀ i, i < P.length → i < ts.length + ((P.take i).flatMap kids).length
  perm : P.Perm (ts.flatMap lot)
/-- .. under way: some are done, some are left -/
structure BfsW (ts D T : List PyData) : Prop where
  eq : D ++ T = ts ++ D.flatMap kids
  far : ∀ i, i < D.length → i < ts.length + ((D.take i).flatMap kids).length
  perm : (D ++ T.flatMap lot).Perm (ts.flatMap lot)
theorem BfsW.init (ts : List PyData) : BfsW ts [] ts := ⟨by simp, fun i h => by simp at h, by simp⟩
theorem BfsW.step {ts D T : List PyData} {x : PyData} (h : BfsW ts D (x :: T)) : BfsW ts (D ++ [x]) (T ++ kids x) := by
  refine ⟨?_, fun i hi => ?_, ?_⟩
  · rw [List.flatMap_append, List.append_assoc, ← List.append_assoc ts, ← h.eq]
    simp
  · rw [List.length_append] at hi
    rcases Nat.lt_or_ge i D.length with l | l
    · rw [List.take_append_of_le_length (by omega)]
      exact h.far i l
    · have e : i = D.length := by simp at hi; omega
      subst e
      rw [List.take_append_of_le_length (Nat.le_refl _), List.take_length]
      have := congrArg List.length h.eq
      simp only [List.length_append, List.length_cons] at this
      omega
  · refine List.Perm.trans ?_ h.perm
    rw [List.flatMap_append, List.flatMap_cons, lot_eq x]
    rw [List.append_assoc]
    refine List.Perm.append_left D ?_
    rw [List.singleton_append, List.cons_append]
    exact List.Perm.cons x List.perm_append_comm
theorem BfsW.fin {ts D : List PyData} (h : BfsW ts D []) : Bfs ts D := by
  refine ⟨?_, h.far, ?_⟩
  · have := h.eq
    rwa [List.append_nil] at this
  · have := h.perm
    simpa using this
theorem BfsW.count {ts D T : List PyData} (h : BfsW ts D T) : D.length + T.length ≤ (ts.flatMap lot).length := by
  have e := h.perm.length_eq
  rw [List.length_append] at e
  have : T.length ≤ (T.flatMap lot).length := by
    clear h e
    induction T with
    | nil => simp
    | cons x T ih =>
      rw [List.flatMap_cons, List.length_append, List.length_cons]
      have := sz_pos x
      unfold sz at this
      omega
  omega
theorem Bfs.len {ts P : List PyData} (h : Bfs ts P) : P.length = (ts.flatMap lot).length := h.perm.length_eq
/-- the place of a piece's parts -/
theorem Bfs.at_ {ts P : List PyData} (h : Bfs ts P) {i : Nat} {x : PyData} (hx : P[i]? = some x) :
    (P.drop (ts.length + ((P.take i).flatMap kids).length)).take (kids x).length = kids x ∧ ts.length + ((P.take (i + 1)).flatMap kids).length = ts.length + ((P.take i).flatMap kids).length + (kids x).length ∧
      ts.length + ((P.take i).flatMap kids).length + (kids x).length ≤ P.length ∧ i < ts.length + ((P.take i).flatMap kids).length := by
  have il : i < P.length := (List.getElem?_eq_some_iff.mp hx).1
  have e1 : P.take (i + 1) = P.take i ++ [x] := by rw [List.take_add_one, hx]; rfl
  have e2 : P = P.take i ++ (x :: P.drop (i + 1)) := by
    have := (List.take_append_drop (i + 1) P).symm
    rw [e1, List.append_assoc] at this
    exact this
  have e3 : P = (ts ++ (P.take i).flatMap kids) ++ (kids x ++ (P.drop (i + 1)).flatMap kids) := by
    have := h.eq
    conv at this => rhs; rw [e2]
    rw [List.flatMap_append, List.flatMap_cons] at this
    rw [List.append_assoc]
    exact this
  refine ⟨?_, ?_, ?_, h.far i il⟩
  · have g : ∀ (A B : List PyData), P = A ++ (kids x ++ B) → (P.drop A.length).take (kids x).length = kids x := fun A B e => by
      rw [e, List.drop_left, List.take_left]
    have := g _ _ e3
    rwa [List.length_append] at this
  · rw [e1, List.flatMap_append, List.length_append]
    simp only [List.flatMap_cons, List.flatMap_nil, List.append_nil]
    omega
  · have := congrArg List.length e3
    simp only [List.length_append] at this
    omega
theorem Bfs.all {ts P : List PyData} (h : Bfs ts P) : P.length = ts.length + (P.flatMap kids).length := by
  have := congrArg List.length h.eq
  rwa [List.length_append] at this
theorem flat_ge {q : PyData} : ∀ {l : List PyData}, q ∈ l → (lot q).length ≤ (l.flatMap lot).length
  | y :: ys, h => by
    rw [List.flatMap_cons, List.length_append]
    rcases List.mem_cons.mp h with rfl | h
    · omega
    · have := flat_ge h
      omega
theorem lot_thing : ∀ (n : Nat) (d : PyData), sz d ≤ n → thing d = true → ∀ p ∈ lot d, thing p = true
  | 0, d, hn, _ => by have := sz_pos d; omega
  | n + 1, d, hn, h => by
    intro p hp
    rw [lot_eq] at hp
    rcases List.mem_cons.mp hp with rfl | hp
    · exact h
    · obtain ⟨q, hq, hp⟩ := List.mem_flatMap.mp hp
      have : sz q < sz d := by
        unfold sz
        rw [lot_eq d, List.length_cons]
        have : (lot q).length ≤ ((kids d).flatMap lot).length := flat_ge hq
        omega
      exact lot_thing n q (by omega) (thing_kids h hq) p hp
theorem Bfs.things {ts P : List PyData} (h : Bfs ts P) (ht : ∀ t ∈ ts, thing t = true) : ∀ p ∈ P, thing p = true := fun p hp => by
  obtain ⟨t, ht1, ht2⟩ := List.mem_flatMap.mp (h.perm.mem_iff.mp hp)
  exact lot_thing _ t (Nat.le_refl _) (ht t ht1) p ht2
end Mine

set_option Elab.async false
set_option linter.all false
set_option maxRecDepth 100000
set_option maxHeartbeats 4000000
/-! Tables merged; sorted texts; things told by their texts. -/
namespace Mine
open PySem PySem.Spec PyProof.Rows L2 TL
theorem keys_put {kvs : List (Key × V)} {k : Key} {v : V} : (k ∈ kvs.map (·.1) → (putK kvs k v).map (·.1) = kvs.map (·.1)) ∧ (k ∉ kvs.map (·.1) → (putK kvs k v).map (·.1) = kvs.map (·.1) ++ [k]) := by
  unfold putK
  have a : ((kvs.any fun kv => decide (kv.1 = k)) = true) ↔ k ∈ kvs.map (·.1) := by
    rw [List.any_eq_true, List.mem_map]
    constructor
    · rintro ⟨x, hx, e⟩
      exact ⟨x, hx, of_decide_eq_true e⟩
    · rintro ⟨x, hx, e⟩
      exact ⟨x, hx, decide_eq_true e⟩
  refine ⟨fun h => ?_, fun h => ?_⟩
  · rw [if_pos (a.mpr h), List.map_map]
    refine List.map_congr_left fun x _ => ?_
    show (if x.1 = k then (x.1, v) else x).1 = x.1
    split <;> rfl
  · rw [if_neg fun z => h (a.mp z), List.map_append]
    rfl
theorem merge_all {R : Key → V → Prop} : ∀ {l kvs : List (Key × V)}, (kvs.map (·.1)).Nodup → (∀ k v, valV kvs k = some v → R k v) → (∀ p ∈ l, R p.1 p.2) →
    ((mergeK kvs l).map (·.1)).Nodup ∧ (∀ k v, valV (mergeK kvs l) k = some v → R k v) ∧ (∀ k, k ∈ (mergeK kvs l).map (·.1) ↔ k ∈ kvs.map (·.1) ∨ k ∈ l.map (·.1))
  | [], kvs, n, a, _ => ⟨n, a, fun k => by simp [mergeK]⟩
  | p :: l, kvs, n, a, b => by
    have e : mergeK kvs (p :: l) = mergeK (putK kvs p.1 p.2) l := rfl
    obtain ⟨kp, kq⟩ := keys_put (kvs := kvs) (k := p.1) (v := p.2)
    have n' : ((putK kvs p.1 p.2).map (·.1)).Nodup := by
      by_cases h : p.1 ∈ kvs.map (·.1)
      · rw [kp h]; exact n
      · rw [kq h]
        exact List.nodup_append.mpr ⟨n, by simp, fun x hx y hy => by
          rw [List.mem_singleton.mp hy]
          intro z
          rw [z] at hx
          exact h hx⟩
    obtain ⟨h1, h2, h3⟩ := merge_all (R := R) (l := l) (kvs := putK kvs p.1 p.2) n' (fun k v hv => by
      rw [valV_put] at hv
      by_cases z : k = p.1
      · rw [if_pos z] at hv
        cases hv
        rw [z]
        exact b p (List.mem_cons_self ..)
      · rw [if_neg z] at hv
        exact a k v hv) fun x hx => b x (List.mem_cons_of_mem _ hx)
    rw [e]
    refine ⟨h1, h2, fun k => ?_⟩
    rw [h3 k, List.map_cons, List.mem_cons]
    by_cases h : p.1 ∈ kvs.map (·.1)
    · rw [kp h]
      constructor
      · rintro (z | z)
        · exact .inl z
        · exact .inr (.inr z)
      · rintro (z | rfl | z)
        · exact .inl z
        · exact .inl h
        · exact .inr z
    · rw [kq h, List.mem_append, List.mem_singleton]
      constructor
      · rintro ((z | z) | z)
        · exact .inl z
        · exact .inr (.inl z)
        · exact .inr (.inr z)
      · rintro (z | z | z)
        · exact .inl (.inl z)
        · exact .inl (.inr z)
        · exact .inr z
theorem val_some {kvs : List (Key × V)} {k : Key} (h : k ∈ kvs.map (·.1)) : ∃ v, valV kvs k = some v := by
  have a := valV_any k kvs
  obtain ⟨p, hp, rfl⟩ := List.mem_map.mp h
  have : (kvs.any fun kv => decide (kv.1 = p.1)) = true := List.any_eq_true.mpr ⟨p, hp, decide_eq_true rfl⟩
  rw [this] at a
  exact Option.isSome_iff_exists.mp a.symm
/-! ascending texts -/
def LtS (a b : Str) : Prop := a.cps.toList < b.cps.toList
theorem lt_of_nlt {a b : Str} (h : ¬ LtS b a) (ne : a ≠ b) : LtS a b := by
  have h1 : a.cps.toList ≤ b.cps.toList := List.not_lt.mp h
  rcases List.le_iff_lt_or_eq.mp h1 with z | z
  · exact z
  · exact absurd (ext_tl z) ne
theorem asc_rising : ∀ (p : Str) (l : List Str), risingS p l = true → (p :: l).Nodup → (p :: l).Pairwise LtS
  | p, [], _, _ => by simp
  | p, x :: r, h, n => by
    have h' : (!ltCps x.cps.toList p.cps.toList) = true ∧ risingS x r = true := by simpa [risingS] using h
    have n' := (List.nodup_cons.mp n).2
    have ih := asc_rising x r h'.2 n'
    have px : LtS p x := by
      refine lt_of_nlt (fun z => ?_) (fun z => (List.nodup_cons.mp n).1 (by rw [z]; exact List.mem_cons_self ..))
      have : ltCps x.cps.toList p.cps.toList = true := by rw [ltCps_eq]; exact decide_eq_true z
      rw [this] at h'
      exact absurd h'.1 (by decide)
    refine List.pairwise_cons.mpr ⟨fun y hy => ?_, ih⟩
    rcases List.mem_cons.mp hy with rfl | hy
    · exact px
    · exact List.lt_trans px ((List.pairwise_cons.mp ih).1 y hy)
theorem asc_sorted {l : List Str} (h : sortedS l = true) (n : l.Nodup) : l.Pairwise LtS := by
  cases l with
  | nil => exact List.Pairwise.nil
  | cons p l => exact asc_rising p l h n
theorem lts_irr {a : Str} : ¬ LtS a a := List.lt_irrefl _
theorem asc_eq : ∀ {l m : List Str}, l.Pairwise LtS → m.Pairwise LtS → (∀ x, x ∈ l ↔ x ∈ m) → l = m
  | [], [], _, _, _ => rfl
  | [], y :: m, _, _, h => absurd ((h y).mpr (List.mem_cons_self ..)) (List.not_mem_nil)
  | x :: l, [], _, _, h => absurd ((h x).mp (List.mem_cons_self ..)) (List.not_mem_nil)
  | x :: l, y :: m, a, b, h => by
    obtain ⟨a1, a2⟩ := List.pairwise_cons.mp a
    obtain ⟨b1, b2⟩ := List.pairwise_cons.mp b
    have exy : x = y := by
      rcases List.mem_cons.mp ((h x).mp (List.mem_cons_self ..)) with z | z
      · exact z
      · rcases List.mem_cons.mp ((h y).mpr (List.mem_cons_self ..)) with z' | z'
        · exact z'.symm
        · exact absurd (List.lt_trans (b1 x z) (a1 y z')) lts_irr
    subst exy
    rw [asc_eq (l := l) (m := m) a2 b2 fun z => ?_]
    constructor
    · intro hz
      rcases List.mem_cons.mp ((h z).mp (List.mem_cons_of_mem _ hz)) with e | e
      · rw [e] at hz
        exact absurd (a1 x hz) lts_irr
      · exact e
    · intro hz
      rcases List.mem_cons.mp ((h z).mpr (List.mem_cons_of_mem _ hz)) with e | e
      · rw [e] at hz
        exact absurd (b1 x hz) lts_irr
      · exact e
/-! things told by their texts -/
def okS (x : Str) : Bool := x.cps.toList.all fun c => decide (c ≠ 40 ∧ c ≠ 41 ∧ c ≠ 44)
mutual
def thW : PyData → Bool
  | .str x => okS x
  | .tuple (.str c :: d :: ds) => okS c && thW d && thWs ds
  | _ => false
def thWs : List PyData → Bool
  | [] => true
  | d :: ds => thW d && thWs ds
end
theorem thWs_iff {ds : List PyData} : thWs ds = true ↔ ∀ d ∈ ds, thW d = true := by
  induction ds with
  | nil => simp [thWs]
  | cons d ds ih => simp only [thWs, Bool.and_eq_true, ih, List.mem_cons, forall_eq_or_imp]
theorem thW_cases {d : PyData} (h : thW d = true) : (∃ c, d = .str c ∧ okS c = true) ∨ ∃ c ps, d = .tuple (.str c :: ps) ∧ ps ≠ [] ∧ okS c = true ∧ thWs ps = true := by
  cases d with
  | str c => exact .inl ⟨c, rfl, by simpa only [thW] using h⟩
  | tuple ds =>
    match ds, h with
    | .str c :: p :: ps, h =>
      have h' : (okS c = true ∧ thW p = true) ∧ thWs ps = true := by simpa [thW] using h
      exact .inr ⟨c, p :: ps, rfl, List.cons_ne_nil _ _, h'.1.1, by simp only [thWs, h'.1.2, h'.2]; rfl⟩
    | [], h => simp [thW] at h
    | [x], h => cases x <;> simp [thW] at h
    | .none :: _ :: _, h => simp [thW] at h
    | .bool _ :: _ :: _, h => simp [thW] at h
    | .int _ :: _ :: _, h => simp [thW] at h
    | .list _ :: _ :: _, h => simp [thW] at h
    | .tuple _ :: _ :: _, h => simp [thW] at h
    | .dict _ :: _ :: _, h => simp [thW] at h
  | none => simp [thW] at h
  | bool _ => simp [thW] at h
  | int _ => simp [thW] at h
  | list _ => simp [thW] at h
  | dict _ => simp [thW] at h
end Mine

set_option Elab.async false
set_option linter.all false
set_option maxRecDepth 100000
set_option maxHeartbeats 4000000
/-! Unlike things have unlike texts. -/
namespace Mine
open PySem PySem.Spec PyProof.Rows L2 TL
abbrev tx (d : PyData) : List Nat := tl (txt d)
theorem tx_node (c : Str) (ps : List PyData) : tx (.tuple (.str c :: ps)) = tl c ++ 40 :: (joinL [44] (ps.map tx) ++ [41]) := by
  have a : tl (PySem.Str.ofString "(") = [40] := by decide +kernel
  have b : tl (PySem.Str.ofString ")") = [41] := by decide +kernel
  have e : tl (PySem.Str.ofString ",") = [44] := by decide +kernel
  show tl (txt _) = _
  rw [txt_tup, tl_append, tl_append, tl_append, tl_join, a, b, e, List.map_map]
  simp [tx, Function.comp_def]
def brk (c : Nat) : Prop := c = 40 ∨ c = 41 ∨ c = 44
theorem okS_free {x : Str} (h : okS x = true) : ∀ c ∈ tl x, ¬ brk c := fun c hc => by
  have := List.all_eq_true.mp h c hc
  have := of_decide_eq_true this
  unfold brk
  omega
def AtBrk (r : List Nat) : Prop := ∀ c t, r = c :: t → brk c
theorem free_cut {a b : List Nat} : ∀ {r r' : List Nat}, (∀ c ∈ a, ¬ brk c) → (∀ c ∈ b, ¬ brk c) → AtBrk r → AtBrk r' → a ++ r = b ++ r' → a = b ∧ r = r' := by
  induction a generalizing b with
  | nil =>
    intro r r' ha hb hr hr' e
    cases b with
    | nil => exact ⟨rfl, e⟩
    | cons x b => exact absurd (hr x _ e) (hb x (List.mem_cons_self ..))
  | cons y a ih =>
    intro r r' ha hb hr hr' e
    cases b with
    | nil => exact absurd (hr' y _ e.symm) (ha y (List.mem_cons_self ..))
    | cons x b =>
      injection e with e1 e2
      obtain ⟨h1, h2⟩ := ih (fun c hc => ha c (List.mem_cons_of_mem _ hc)) (fun c hc => hb c (List.mem_cons_of_mem _ hc)) hr hr' e2
      exact ⟨by rw [e1, h1], h2⟩
/-- behind a thing: the end, a comma or a closing bracket -/
def Beh (r : List Nat) : Prop := ∀ c t, r = c :: t → c = 41 ∨ c = 44
theorem Beh.at_ {r : List Nat} (h : Beh r) : AtBrk r := fun c t e => .inr (h c t e)
theorem at40 (t : List Nat) : AtBrk (40 :: t) := fun c u e => by
  injection e with e1 _
  exact .inl e1.symm
theorem beh41 (t : List Nat) : Beh (41 :: t) := fun c u e => by
  injection e with e1 _
  exact .inl e1.symm
theorem beh44 (t : List Nat) : Beh (44 :: t) := fun c u e => by
  injection e with e1 _
  exact .inr e1.symm
mutual
theorem tx_cut : ∀ (d d' : PyData) (r r' : List Nat), thW d = true → thW d' = true → Beh r → Beh r' → tx d ++ r = tx d' ++ r' → d = d' ∧ r = r'
  | .str x, d', r, r', h, h', hr, hr', e => by
    have hx : okS x = true := by simpa only [thW] using h
    have ex : tx (.str x) = tl x := by show tl (txt _) = _; rw [txt_str]
    rw [ex] at e
    rcases thW_cases h' with ⟨y, rfl, hy⟩ | ⟨c, ps, rfl, _, hc, _⟩
    · have ey : tx (.str y) = tl y := by show tl (txt _) = _; rw [txt_str]
      rw [ey] at e
      obtain ⟨a, b⟩ := free_cut (okS_free hx) (okS_free hy) hr.at_ hr'.at_ e
      exact ⟨by rw [ext_tl a], b⟩
    · rw [tx_node, List.append_assoc] at e
      obtain ⟨_, b⟩ := free_cut (okS_free hx) (okS_free hc) hr.at_ (at40 _) e
      have := hr 40 _ b
      omega
  | .tuple (.str c :: p :: ps), d', r, r', h, h', hr, hr', e => by
    have h2 : (okS c = true ∧ thW p = true) ∧ thWs ps = true := by simpa [thW] using h
    have h3 : thWs (p :: ps) = true := by simp only [thWs, h2.1.2, h2.2]; rfl
    rw [tx_node, List.append_assoc] at e
    rcases thW_cases h' with ⟨y, rfl, hy⟩ | ⟨c', ps', rfl, ne, hc, hp⟩
    · have ey : tx (.str y) = tl y := by show tl (txt _) = _; rw [txt_str]
      rw [ey] at e
      obtain ⟨_, b⟩ := free_cut (okS_free h2.1.1) (okS_free hy) (at40 _) hr'.at_ e
      have := hr' 40 _ b.symm
      omega
    · rw [tx_node, List.append_assoc] at e
      obtain ⟨a, b⟩ := free_cut (okS_free h2.1.1) (okS_free hc) (at40 _) (at40 _) e
      have b2 : joinL [44] ((p :: ps).map tx) ++ [41] ++ r = joinL [44] (ps'.map tx) ++ [41] ++ r' := (List.cons.inj b).2
      rw [List.append_assoc, List.append_assoc] at b2
      cases ps' with
      | nil => exact absurd rfl ne
      | cons p' ps' =>
        obtain ⟨a2, b3⟩ := txs_cut (p :: ps) (p' :: ps') r r' (List.cons_ne_nil _ _) (List.cons_ne_nil _ _) h3 hp b2
        exact ⟨by rw [ext_tl a, a2], b3⟩
  | .none, _, _, _, h, _, _, _, _ => by simp [thW] at h
  | .bool _, _, _, _, h, _, _, _, _ => by simp [thW] at h
  | .int _, _, _, _, h, _, _, _, _ => by simp [thW] at h
  | .list _, _, _, _, h, _, _, _, _ => by simp [thW] at h
  | .dict _, _, _, _, h, _, _, _, _ => by simp [thW] at h
  | .tuple [], _, _, _, h, _, _, _, _ => by simp [thW] at h
  | .tuple [d], _, _, _, h, _, _, _, _ => by cases d <;> simp [thW] at h
  | .tuple (.none :: _ :: _), _, _, _, h, _, _, _, _ => by simp [thW] at h
  | .tuple (.bool _ :: _ :: _), _, _, _, h, _, _, _, _ => by simp [thW] at h
  | .tuple (.int _ :: _ :: _), _, _, _, h, _, _, _, _ => by simp [thW] at h
  | .tuple (.list _ :: _ :: _), _, _, _, h, _, _, _, _ => by simp [thW] at h
  | .tuple (.tuple _ :: _ :: _), _, _, _, h, _, _, _, _ => by simp [thW] at h
  | .tuple (.dict _ :: _ :: _), _, _, _, h, _, _, _, _ => by simp [thW] at h
theorem txs_cut : ∀ (ds ds' : List PyData) (r r' : List Nat), ds ≠ [] → ds' ≠ [] → thWs ds = true → thWs ds' = true →
    joinL [44] (ds.map tx) ++ 41 :: r = joinL [44] (ds'.map tx) ++ 41 :: r' → ds = ds' ∧ r = r'
  | [], _, _, _, z, _, _, _, _ => absurd rfl z
  | _ :: _, [], _, _, _, z, _, _, _ => absurd rfl z
  | [d], [d'], r, r', _, _, h, h', e => by
    have h1 : thW d = true := by simpa [thWs] using h
    have h2 : thW d' = true := by simpa [thWs] using h'
    obtain ⟨a, b⟩ := tx_cut d d' _ _ h1 h2 (beh41 _) (beh41 _) e
    exact ⟨by rw [a], (List.cons.inj b).2⟩
  | [d], d' :: e' :: ds', r, r', _, _, h, h', e => by
    have h1 : thW d = true := by simpa [thWs] using h
    have h2 : thW d' = true ∧ thWs (e' :: ds') = true := by simpa [thWs] using h'
    have e1 : tx d ++ 41 :: r = tx d' ++ 44 :: (joinL [44] ((e' :: ds').map tx) ++ 41 :: r') := by
      have : tx d ++ 41 :: r = tx d' ++ ([44] ++ joinL [44] ((e' :: ds').map tx)) ++ 41 :: r' := e
      rw [this, List.append_assoc]
      rfl
    obtain ⟨_, b⟩ := tx_cut d d' _ _ h1 h2.1 (beh41 _) (beh44 _) e1
    injection b with b1 _
    cases b1
  | d :: e' :: ds, [d'], r, r', _, _, h, h', e => by
    have h1 : thW d = true ∧ thWs (e' :: ds) = true := by simpa [thWs] using h
    have h2 : thW d' = true := by simpa [thWs] using h'
    have e1 : tx d ++ 44 :: (joinL [44] ((e' :: ds).map tx) ++ 41 :: r) = tx d' ++ 41 :: r' := by
      have : tx d ++ ([44] ++ joinL [44] ((e' :: ds).map tx)) ++ 41 :: r = tx d' ++ 41 :: r' := e
      rw [← this, List.append_assoc]
      rfl
    obtain ⟨_, b⟩ := tx_cut d d' _ _ h1.1 h2 (beh44 _) (beh41 _) e1
    injection b with b1 _
    cases b1
  | d :: e1 :: ds, d' :: e2 :: ds', r, r', _, _, h, h', e => by
    have h1 : thW d = true ∧ thWs (e1 :: ds) = true := by simpa [thWs] using h
    have h2 : thW d' = true ∧ thWs (e2 :: ds') = true := by simpa [thWs] using h'
    have e3 : tx d ++ 44 :: (joinL [44] ((e1 :: ds).map tx) ++ 41 :: r) = tx d' ++ 44 :: (joinL [44] ((e2 :: ds').map tx) ++ 41 :: r') := by
      have : tx d ++ ([44] ++ joinL [44] ((e1 :: ds).map tx)) ++ 41 :: r = tx d' ++ ([44] ++ joinL [44] ((e2 :: ds').map tx)) ++ 41 :: r' := e
      rw [List.append_assoc, List.append_assoc, List.append_assoc, List.append_assoc] at this
      exact this
    obtain ⟨a, b⟩ := tx_cut d d' _ _ h1.1 h2.1 (beh44 _) (beh44 _) e3
    obtain ⟨a2, b2⟩ := txs_cut (e1 :: ds) (e2 :: ds') r r' (List.cons_ne_nil _ _) (List.cons_ne_nil _ _) h1.2 h2.2 (List.cons.inj b).2
    exact ⟨by rw [a, a2], b2⟩
end
theorem txt_inj {d d' : PyData} (h : thW d = true) (h' : thW d' = true) (e : txt d = txt d') : d = d' :=
  (tx_cut d d' [] [] h h' (fun _ _ z => nomatch z) (fun _ _ z => nomatch z) (by rw [List.append_nil, List.append_nil]; exact congrArg tl e)).1
theorem thW_thing : ∀ (n : Nat) (d : PyData), sz d ≤ n → thW d = true → thing d = true
  | 0, d, hn, _ => by have := sz_pos d; omega
  | n + 1, d, hn, h => by
    rcases thW_cases h with ⟨c, rfl, _⟩ | ⟨c, ps, rfl, ne, _, hp⟩
    · simp [thing]
    · have kd : kids (.tuple (.str c :: ps)) = ps := rfl
      have small : ∀ p ∈ ps, thing p = true := fun p hp1 => by
        refine thW_thing n p ?_ (thWs_iff.mp hp p hp1)
        have : sz (.tuple (.str c :: ps)) = 1 + (ps.flatMap lot).length := by
          unfold sz
          rw [lot_eq, kd, List.length_cons]
          omega
        have := flat_ge hp1
        unfold sz at *
        omega
      cases ps with
      | nil => exact absurd rfl ne
      | cons p ps =>
        simp only [thing, Bool.and_eq_true]
        exact ⟨small p (List.mem_cons_self ..), thingAll_iff.mpr fun x hx => small x (List.mem_cons_of_mem _ hx)⟩
theorem thW_lot : ∀ (n : Nat) (d : PyData), sz d ≤ n → thW d = true → ∀ p ∈ lot d, thW p = true
  | 0, d, hn, _ => by have := sz_pos d; omega
  | n + 1, d, hn, h => by
    intro p hp
    rw [lot_eq] at hp
    rcases List.mem_cons.mp hp with rfl | hp
    · exact h
    · obtain ⟨q, hq, hp⟩ := List.mem_flatMap.mp hp
      have qs : sz q < sz d := by
        have := flat_ge hq
        unfold sz
        rw [lot_eq d, List.length_cons]
        omega
      refine thW_lot n q (by omega) ?_ p hp
      rcases thW_cases h with ⟨c, rfl, _⟩ | ⟨c, ps, rfl, _, _, hps⟩
      · exact (List.not_mem_nil hq).elim
      · exact thWs_iff.mp hps q hq
end Mine

set_option Elab.async false
set_option linter.all false
set_option maxRecDepth 100000
set_option maxHeartbeats 4000000
/-! Sizes of texts of pieces; things put in the places of names. -/
namespace Mine
open PySem PySem.Spec PyProof.Rows L2 TL
theorem kid_len {d p : PyData} (h : thing d = true) (hp : p ∈ kids d) : (txt p).length ≤ (txt d).length := by
  rcases thing_cases h with ⟨c, rfl⟩ | ⟨c, ps, rfl, _, _⟩
  · exact (List.not_mem_nil hp).elim
  · have hp' : p ∈ ps := hp
    rw [txt_tup, strLen_append, strLen_append, strLen_append]
    have e1 : ∀ z : Str, (tl z).length = z.length := fun z => by simp [tl, Str.length]
    have : (txt p).length ≤ (Str.join (PySem.Str.ofString ",") (ps.map txt)).length := by
      rw [← e1, ← e1, tl_join]
      have go : ∀ {S : List Nat} {l : List (List Nat)} {x : List Nat}, x ∈ l → x.length ≤ (joinL S l).length := fun {S l x} => by
        induction l with
        | nil => intro h; exact (List.not_mem_nil h).elim
        | cons y l ih =>
          intro hx
          cases l with
          | nil =>
            rw [List.mem_singleton.mp hx]
            exact Nat.le_refl _
          | cons z l =>
            show x.length ≤ (y ++ (S ++ joinL S (z :: l))).length
            rw [List.length_append, List.length_append]
            rcases List.mem_cons.mp hx with rfl | hx
            · omega
            · have := ih hx
              omega
      exact go (List.mem_map.mpr ⟨txt p, List.mem_map.mpr ⟨p, hp', rfl⟩, rfl⟩)
    omega
theorem lot_len : ∀ (n : Nat) (d : PyData), sz d ≤ n → thing d = true → ∀ p ∈ lot d, (txt p).length ≤ (txt d).length
  | 0, d, hn, _ => by have := sz_pos d; omega
  | n + 1, d, hn, h => by
    intro p hp
    rw [lot_eq] at hp
    rcases List.mem_cons.mp hp with rfl | hp
    · exact Nat.le_refl _
    · obtain ⟨q, hq, hp⟩ := List.mem_flatMap.mp hp
      have qs : sz q < sz d := by
        have := flat_ge hq
        unfold sz
        rw [lot_eq d, List.length_cons]
        omega
      exact Nat.le_trans (lot_len n q (by omega) (thing_kids h hq) p hp) (kid_len h hq)
mutual
/-- other things in the places of words and names -/
def put (f : Str → PyData) : PyData → PyData
  | .str x => f x
  | .tuple (.str c :: ds) => .tuple (.str c :: puts f ds)
  | d => d
def puts (f : Str → PyData) : List PyData → List PyData
  | [] => []
  | d :: ds => put f d :: puts f ds
end
theorem puts_eq (f : Str → PyData) (ds : List PyData) : puts f ds = ds.map (put f) := by
  induction ds with
  | nil => simp [puts]
  | cons d ds ih => simp [puts, ih]
theorem put_str (f : Str → PyData) (x : Str) : put f (.str x) = f x := by simp only [put]
theorem put_tup (f : Str → PyData) (c : Str) (ps : List PyData) : put f (.tuple (.str c :: ps)) = .tuple (.str c :: ps.map (put f)) := by
  rw [← puts_eq]
  simp only [put]
theorem thing_tup {c : Str} {ps : List PyData} (ne : ps ≠ []) (h : ∀ p ∈ ps, thing p = true) : thing (.tuple (.str c :: ps)) = true := by
  cases ps with
  | nil => exact absurd rfl ne
  | cons p ps =>
    simp only [thing, Bool.and_eq_true]
    exact ⟨h p (List.mem_cons_self ..), thingAll_iff.mpr fun x hx => h x (List.mem_cons_of_mem _ hx)⟩
theorem put_thing {f : Str → PyData} (hf : ∀ x, thing (f x) = true) : ∀ (n : Nat) (d : PyData), sz d ≤ n → thing d = true → thing (put f d) = true
  | 0, d, hn, _ => by have := sz_pos d; omega
  | n + 1, d, hn, h => by
    rcases thing_cases h with ⟨c, rfl⟩ | ⟨c, ps, rfl, ne, hp⟩
    · rw [put_str]
      exact hf c
    · rw [put_tup]
      refine thing_tup (by simpa using ne) fun q hq => ?_
      obtain ⟨p, hp1, rfl⟩ := List.mem_map.mp hq
      refine put_thing hf n p ?_ (hp p hp1)
      have e : sz (.tuple (.str c :: ps)) = 1 + (ps.flatMap lot).length := by
        unfold sz
        rw [lot_eq, List.length_cons]
        show (ps.flatMap lot).length + 1 = _
        omega
      have := flat_ge hp1
      unfold sz at *
      omega
end Mine

set_option Elab.async false
set_option linter.all false
set_option maxRecDepth 100000
set_option maxHeartbeats 4000000
/-! A comprehension of two clauses over a list, the second one over tuples; pieces level by level. -/
namespace Mine
open PySem PySem.Spec PyProof.Rows L2 TL
theorem BfsW.steps {ts : List PyData} : ∀ {R D T : List PyData}, BfsW ts D (R ++ T) → BfsW ts (D ++ R) (T ++ R.flatMap kids)
  | [], D, T, h => by simpa using h
  | x :: R, D, T, h => by
    have h1 : BfsW ts (D ++ [x]) (R ++ (T ++ kids x)) := by
      have := BfsW.step (x := x) (T := R ++ T) h
      rwa [List.append_assoc] at this
    have := BfsW.steps h1
    simpa [List.flatMap_cons, List.append_assoc] using this
theorem BfsW.level {ts R D : List PyData} (h : BfsW ts D R) : BfsW ts (D ++ R) (R.flatMap kids) := by
  have := BfsW.steps (R := R) (D := D) (T := []) (by simpa using h)
  simpa using this
section
variable {X : Cx} {K : PySem.W.Frag}
theorem call_isiK (e : X.K = K) : CallR X (.builtin "isinstance") (rIsi K) := e ▸ call_isi
theorem sl_tupFK (e : X.K = K) : SlR X (rSlF K) := e ▸ sl_tupF
theorem pi_tupK {tg l : Expr} {tl : TE} (e : X.K = K) (hl : PE X l tl) : PI X tg l (iTup K tl) := e ▸ pi_tup hl
theorem pi_listK {tg l : Expr} {tl : TE} (e : X.K = K) (hl : PE X l tl) : PI X tg l (iList K tl) := e ▸ pi_list hl
end
/-- the first clause over a list: T i says the second clause's own loop -/
theorem out_list {K : PySem.W.Frag} {a D : Addr} {xs : List V} {H1 : Hp} {Qd : Hp → Prop} {T : V → Hp → (Hp → Prop) → Prop} (Pv : Nat → Hp → Prop) (h0 : Pv 0 (upd H1 D (.lst []))) (hl : ∀ i H, i ≤ xs.length → Pv i H → SqL K H a xs)
    (hs : ∀ i x H, xs[i]? = some x → Pv i H → T x H (Pv (i + 1))) (hd : ∀ H, Pv xs.length H → Qd H) :
    ∃ W : Nat → Nat → Hp → Prop, (∃ m, W 0 m (upd H1 D (.lst []))) ∧ ∀ i m H, W i m H → ((Itl K a).stop i H ∧ Qd H) ∨ ((Itl K a).go i H ∧ ∃ Nx : Hp → Prop, (∀ H', Nx H' → ∃ m', m' < m ∧ W (i + 1) m' H') ∧ ∀ x H', (Itl K a).yld i H x H' → T x H' Nx) := by
  refine ⟨fun i m H => m = xs.length - i ∧ i ≤ xs.length ∧ Pv i H, ⟨xs.length, by simp, Nat.zero_le _, h0⟩, ?_⟩
  rintro i m H ⟨rfl, hi, p⟩
  have q := hl i H hi p
  by_cases hlt : i < xs.length
  · refine .inr ⟨⟨xs, xs[i], q, by simp [hlt]⟩, Pv (i + 1), fun H' p' => ⟨xs.length - (i + 1), by omega, rfl, hlt, p'⟩, fun x H' y => ?_⟩
    obtain ⟨e, y⟩ := y
    subst e
    exact hs i x _ (y xs q) p
  · have e : i = xs.length := by omega
    subst e
    exact .inl ⟨⟨xs, q, Nat.le_refl _⟩, hd H p⟩
theorem sqT_sm {K : PySem.W.Frag} {H H' : Hp} {a : Addr} {xs : List V} (k : Same H H') (h : SqT K H a xs) : SqT K H' a xs := by
  rcases h with (h | ⟨o, h⟩) | h
  · exact .inl (.inl (k _ _ h))
  · exact .inl (.inr ⟨o, k _ _ h⟩)
  · exact .inr h
theorem sqL_sm {K : PySem.W.Frag} {H H' : Hp} {a : Addr} {xs : List V} (k : Same H H') (h : SqL K H a xs) : SqL K H' a xs := by
  rcases h with (h | ⟨o, h⟩) | h
  · exact .inl (.inl (k _ _ h))
  · exact .inl (.inr ⟨o, k _ _ h⟩)
  · exact .inr h
end Mine

set_option Elab.async false
set_option linter.all false
set_option maxRecDepth 100000
set_option maxHeartbeats 4000000
/-! for i, x in enumerate(a tuple). -/
namespace Mine
open PySem PySem.Spec PyProof.Rows L2
open AutoSeq1 (wpAny_loadPart')
theorem meets_enumT (l : Addr) (items : Array Value) (n : Nat) (dct : Option Addr) (sl : Array (Option Value)) :
    Meets (Builtin.«enumerate.__new__» ⟨[.type "enumerate", .ref l], []⟩) (fun _ R s => s.heap.get? l = some { cls := .type "tuple", dict := dct, data := .seq items n, slots := sl } ∧
      R (.ok (.ret (.ref (s.heap.push { cls := .type "tuple_iterator", data := .fields #[.ref l, .int 0 0] }).objs.size)))
        { s with heap := (s.heap.push { cls := .type "tuple_iterator", data := .fields #[.ref l, .int 0 0] }).push { cls := .type "enumerate", data := .fields #[.none, .bool false, .ref s.heap.objs.size, rawInt 0, .none, .none] } }) :=
  .of_wp fun prog w A R s h => by
    obtain ⟨hp, g, d, tk, os⟩ := s; obtain ⟨hl, h⟩ := h
    have hsub := sub_enumerate
    have hL : Heap.IsTuple (Shared.heap ⟨hp, g, d, tk, os⟩) l items := ⟨_, hl, rfl, n, rfl⟩
    wp_walk using wpAny_loadPart' hl
    refine wpAny_stack_any fun st => wpAny_pure ?_
    split
    · rename_i c _ _ _ _ _
      cases (c == Value.type "enumerate")
      · wp_walk using wpAny_loadPart' hl, wpAny_pyIter_tuple hL
        exact ⟨_, rfl, h⟩
      · wp_walk using wpAny_loadPart' hl, wpAny_pyIter_tuple hL
        exact ⟨_, rfl, h⟩
    · wp_walk using wpAny_loadPart' hl, wpAny_pyIter_tuple hL
      exact ⟨_, rfl, h⟩
section
variable {prog : Program} {w : World} {A : Around} {E : Value → Shared → Prop} {s : Shared}
theorem call_enumT {l : Addr} {items : Array Value} {Q : Value → Shared → Prop} (hL : s.heap.IsTuple l items)
    (h : ∀ h', IsEnum h' (s.heap.objs.size + 1) s.heap.objs.size 0 .none → h'.IsTupleIter s.heap.objs.size l 0 → h'.objs.size = s.heap.objs.size + 2 →
      (∀ b o, s.heap.get? b = some o → h'.get? b = some o) → Q (.ref (s.heap.objs.size + 1)) { s with heap := h' }) :
    wpAny (model prog w) A (call (.type "enumerate") [.ref l]) Q E s := by
  obtain ⟨⟨c, dct, dt, sl⟩, hl, hc, n, hd⟩ := hL
  replace hc : c = .type "tuple" := hc
  replace hd : dt = .seq items n := hd
  subst hc hd
  refine callType_new F.called_enumerate (by decide) (F.typeCall_enumerate_1 _) (F.newCall_enumerate_1 _) (fun obj => F.args_object_init_2 obj _) F.entry_enumerate_new
    (meets_enumT l items n dct sl) ⟨hl, ?_⟩
  have hz : (s.heap.push { cls := .type "tuple_iterator", data := .fields #[.ref l, .int 0 0] }).objs.size = s.heap.objs.size + 1 := Heap.size_push ..
  show _ ∧ _
  rw [hz]
  have he : IsEnum ((s.heap.push { cls := .type "tuple_iterator", data := .fields #[.ref l, .int 0 0] }).push
      { cls := .type "enumerate", data := .fields #[.none, .bool false, .ref s.heap.objs.size, rawInt 0, .none, .none] }) (s.heap.objs.size + 1) s.heap.objs.size 0 .none := by
    have := Heap.get?_push_size (s.heap.push { cls := .type "tuple_iterator", data := .fields #[.ref l, .int 0 0] })
      (o := { cls := .type "enumerate", data := .fields #[.none, .bool false, .ref s.heap.objs.size, rawInt 0, .none, .none] }) rfl
    rw [hz] at this; exact this
  refine ⟨⟨_, he, rfl⟩, h _ he ⟨_, Heap.get?_push_of_some _ (Heap.get?_push_size _ rfl), rfl, rfl⟩ (by rw [Heap.size_push, hz]) fun b o x => Heap.get?_push_of_some _ (Heap.get?_push_of_some _ x)⟩
end
/-- the tuple at a as it stands, each item in a new pair with its number -/
def IteP (K : PySem.W.Frag) (a : Addr) : It :=
  ⟨fun i H => ∃ (xs : List V) (x : V), SqT K H a xs ∧ xs[i]? = some x, fun i H v H' => ∃ T x, v = .ref T ∧ H T = none ∧ H' = upd H T (.tup [.int (i : Nat), x]) ∧ ∀ xs, SqT K H a xs → xs[i]? = some x, fun i H => ∃ xs : List V, SqT K H a xs ∧ xs.length ≤ i⟩
def EnP (a e it : Addr) (i : Nat) (h : Heap) : Prop := (∃ old, IsEnum h e it ((i : Nat) : Int) old) ∧ h.IsTupleIter it a i ∧ e ≠ it
theorem EnP.to {a e it : Addr} {i : Nat} {h h' : Heap} (y : EnP a e it i h) (ke : ∀ o, h.get? e = some o → h'.get? e = some o) (ki : ∀ o, h.get? it = some o → h'.get? it = some o) : EnP a e it i h' := by
  obtain ⟨⟨old, he⟩, hi, n⟩ := y
  obtain ⟨o, ho, r⟩ := hi
  exact ⟨⟨old, ke _ he⟩, ⟨o, ki o ho, r⟩, n⟩
theorem enP_ne {s : Shared} {a e it : Addr} {i : Nat} {c : Int} {old : Value} {items : Array Value} (ob : IsEnum s.heap e it c old) (at_ : s.heap.IsTupleIter it a i) (ht : s.heap.IsTuple a items) : a ≠ it ∧ e ≠ a := by
  obtain ⟨o, ho, hc, _⟩ := at_
  obtain ⟨o2, ho2, hc2, _⟩ := ht
  constructor
  · rintro rfl
    rw [ho] at ho2
    injection ho2 with z
    rw [z, hc2] at hc
    injection hc with hc
    exact absurd hc (by decide)
  · rintro rfl
    have ob' : s.heap.get? e = some _ := ob
    rw [ob'] at ho2
    injection ho2 with z
    rw [← z] at hc2
    injection hc2 with hc
    exact absurd hc (by decide)
theorem enP_over {P : Program} {w : World} {A : Around} {E : Value → Shared → Prop} {s : Shared} {a e it : Addr} {i : Nat} {c : Int} {items : Array Value} {old : Value} {Q : Option Value → Shared → Prop} (hd : A.handled = none)
    (ob : IsEnum s.heap e it c old) (at_ : s.heap.IsTupleIter it a i) (ht : s.heap.IsTuple a items) (nx : items[i]? = none) (go : ∀ h', Heap.ExtBut it s.heap h' → Q none { s with heap := h' }) :
    wpAny (model P w) A (pyNext (.ref e)) Q E s := by
  unfold pyNext
  have ty : s.TypeIs (.ref e) "enumerate" := ⟨_, ob, rfl⟩
  refine wpAny_bind (wpAny_attempt (wpAny_callSpecial?_slot (name := Str.ofString "__next__") ty F.slot_enumerate_next (wpAny_call_entry F.slot_enumerate_next ty F.entry_enumerate_next ?q1 (F.args_enumerate_next_1 _))))
  case q1 =>
    show wpAny _ _ (field (.ref e) 2 >>= _) _ _ _
    refine wpAny_bind (wpAny_field ob rfl (x := .ref it) rfl (wpAny_bind (wpAny_nextOf_tuple_end hd at_ ht nx fun h' z eb hz => ?_)))
    obtain ⟨oz, gz, cz⟩ := hz
    exact wpAny_bind (wpAny_isInstance (T := "StopIteration") (b := true) ⟨oz, gz, cz⟩ isSubtype_stop (wpAny_pure (go _ eb)))
theorem turn_enumP {P : Program} {w : World} {K : PySem.W.Frag} {elts : List Expr} {kk : Nat} {tpos : Pos} (a e it : Addr) : Turn P w K (.Tuple elts kk tpos) (IteP K a) [e, it] e (EnP a e it) := by
  refine { mem := List.mem_cons_self .., obj := ?ob, keep := fun i h h' y k => y.to (k e (by simp)) (k it (by simp)), item := ?nx, done := ?en, self := fun A i s Q E y h => wpAny_pyIter_enum y.1.choose_spec h }
  case ob =>
    intro i h y b hb
    obtain ⟨⟨old, he⟩, ⟨o, ho, _, hd⟩, _⟩ := y
    rcases two_of hb with rfl | rfl
    · exact ⟨_, he, fun _ q => nomatch q⟩
    · refine ⟨o, ho, fun v q => ?_⟩
      rw [hd] at q
      cases q
  case nx =>
    rintro X rfl rfl rfl hc i pins s σ H E I hf ⟨⟨old, he⟩, hit, hne⟩ ⟨xs, x, hq, hx⟩
    obtain ⟨its, rv, p, hz⟩ := I.tuple hq
    have p : s.heap.IsTuple a its.toArray := p
    obtain ⟨u, hu, ru⟩ := rv.get hx
    have le : e < s.heap.objs.size := Heap.lt_size he
    have li : it < s.heap.objs.size := Heap.lt_size hit.choose_spec.1
    obtain ⟨ai, ea⟩ := enP_ne he hit p
    have hi : i < its.toArray.size := by
      have := (List.getElem?_eq_some_iff.mp hu).1
      simpa using this
    have D := Draws.tuple (prog := X.prog) (w := X.w) (A := X.A.in1) (I.ok.hd hc) it a ai its.toArray
    refine wpAny_pyNext_enum_itemC D he ⟨hit, p⟩ hi hne (by simp [hne, ea]) fun z h1 tk hz2 out st1 tup _ kp => ?_
    have hz2 : its.toArray[i]? = some z := hz2
    obtain rfl : z = u := by
      rw [List.getElem?_toArray, hu] at hz2
      injection hz2 with q
      exact q.symm
    refine ⟨_, rfl, wpAny_letOwnedTupleGo_enum (s := { s with heap := h1, toks := tk + 1 }) out fun h2 he2 sb => ?_⟩
    have ob : ObjOk X.prog X.w (upd H s.heap.objs.size (.tup [.int (i : Nat), x])) h2 s.heap.objs.size (.tup [.int (i : Nat), x]) := by
      refine ⟨(by show 2 ≤ sizeLine; decide), [.int (i : Nat) tk, z], .cons ⟨_, rfl⟩ (.cons ru .nil), _, (sb.2 _ (Nat.ne_of_gt le)).trans tup, rfl, _, rfl⟩
    refine ⟨.ref s.heap.objs.size, _, I.turnedNew (t' := tk + 1) (ch := [e, it]) (fun b o hb g => (sb.2 b (off_two hb).1).trans (kp b o (off_two hb).1 (off_two hb).2 g)) hf (Nat.le_refl _) ob, rfl,
      ⟨_, x, rfl, I.hok.fresh (Nat.le_refl _), rfl, fun ys hy => by rw [I.tuple_inj hy hq]; exact hx⟩, ⟨⟨z, ?_⟩, (by obtain ⟨o, ho, r⟩ := st1.1; exact ⟨o, (sb.2 it (Ne.symm hne)).trans ho, r⟩), hne⟩, fun b hb => ?_⟩
    · rw [show ((i + 1 : Nat) : Int) = (i : Int) + 1 by omega]
      exact he2
    · have lb : b < s.heap.objs.size := (two_of hb).elim (fun z => z ▸ le) fun z => z ▸ li
      exact (upd_ne (Nat.ne_of_lt lb)).trans (hf b hb).1
  case en =>
    rintro X rfl rfl rfl hc i pins s σ H E I hf ⟨⟨old, he⟩, hit, hne⟩ ⟨xs, hq, hx⟩
    obtain ⟨its, rv, p, hz⟩ := I.tuple hq
    have p : s.heap.IsTuple a its.toArray := p
    obtain ⟨ai, ea⟩ := enP_ne he hit p
    obtain ⟨f0, f1, _, f3, f4, f5⟩ := hf it (by simp)
    have hl := rv.length
    refine enP_over (I.ok.hd hc) he hit p (by simp; omega) fun h' eb => ⟨rfl, I.turned (t' := s.toks) (fun b o hb g => eb b o hb g) f0 f1 f3 f4 f5⟩
section
variable {X : Cx} {elts : List Expr} {kk : Nat} {p pos tpos : Pos} {e : Expr} {te : TA}
def iEnumP (K : PySem.W.Frag) (te : TA) : TI := fun σ H R => te σ H fun vs H1 => ∃ a xs, vs = [.ref a] ∧ SqT K H1 a xs ∧ R (IteP K a) H1
theorem pi_enumP (hg : Gl X "enumerate") (hm : X.mg "enumerate" = none) (ha : PA X [e] te) (hs : starEach [e] X.env = [(false, eval e X.env)] := by rfl) :
    PI X (.Tuple elts kk tpos) (.Call (.Name "enumerate" p) [e] [] pos) (iEnumP X.K te) := by
  refine ⟨fun pins s σ H R I h => ?_⟩
  refine Call_ (ld_blt I hg hm boot_enumerate (PyProof.Rows.callWith_type1 (thn (ha.run pos pins s σ H _ I h) fun us s1 ⟨vs, H1, I1, r1, q1⟩ => ?_) hs rfl))
  obtain ⟨a, xs, ex, hq, q⟩ := q1
  subst ex
  obtain ⟨u, rfl, r⟩ := vals1 r1
  cases r
  obtain ⟨its, rv, p', hz⟩ := I1.tuple hq
  have p' : s1.heap.IsTuple a its.toArray := p'
  refine call_enumT p' fun h' he hit hsz hkp => wpAny_pyIter_enum he ?_
  have I3 : L2.Inv X pins σ H1 { s1 with heap := h' } := I1.kept (t' := s1.toks) hkp
  refine ⟨s1.heap.objs.size + 1, [s1.heap.objs.size + 1, s1.heap.objs.size], _, _, H1, rfl, I3, turn_enumP a (s1.heap.objs.size + 1) s1.heap.objs.size, ⟨⟨.none, he⟩, hit, Nat.succ_ne_self _⟩, fun b hb => ?_, q⟩
  have hle : s1.heap.objs.size ≤ b := by
    have e' : b = s1.heap.objs.size + 1 ∨ b = s1.heap.objs.size := by simpa using hb
    rcases e' with z | z
    · rw [z]; exact Nat.le_add_right _ _
    · rw [z]; exact Nat.le_refl _
  exact I1.fpOk hle (I1.hok.fresh hle)
end
theorem walk_enumP {K : PySem.W.Frag} {a : Addr} {xs : List V} : Walk (IteP K a) xs.length (fun H => SqT K H a xs) (YPair (fun i => some (.int (i : Nat))) (fun i => xs[i]?)) :=
  ⟨fun i H hi h => ⟨xs, xs[i], h, by simp [hi]⟩, fun H h => ⟨xs, h, Nat.le_refl _⟩, fun i H v H' hi h ⟨T, x, e1, e2, e3, e4⟩ => ⟨T, _, x, e1, e2, e3, rfl, e4 xs h⟩⟩
end Mine

set_option Elab.async false
set_option linter.all false
set_option maxRecDepth 100000
set_option maxHeartbeats 4000000
/-! o.f as one of several targets. -/
namespace Mine
open PySem PySem.Spec PyProof.Rows L2
def gFld (K : PySem.W.Frag) (ta : TE) (f : Str) : TG := fun y σ H Q => ta σ H fun x H2 => ∃ a C dx fs, x = .ref a ∧ H2 a = some (.ins C dx fs) ∧ Cls K C ∧ NoAttr K C f ∧ fs.length < 1000 ∧ Q σ (upd H2 a (.ins C dx (putF f y fs)))
theorem pg_fld {X : Cx} {o : Expr} {ta : TE} {f : Str} {pos : Pos} (ha : PE X o ta) : PG X (.Attribute o f pos) (gFld X.K ta f) := by
  refine ⟨fun pins s σ H y u Q I ry h => ?_⟩
  rw [assign_Attribute]
  refine wpAny_bind (wpAny_holding (thn (ha.run pins s σ H _ I h) fun ov s2 ⟨x, H2, I2, rx, a, C, dx, fs, ex, ea, c, n, l, q2⟩ => ?_))
  subst ex
  obtain rfl : ov = Value.ref a := rx
  refine wpAny_bind (wpAny_standAt (wpAny_bind (wpAny_holding (setattr_ok I2 ea c n l ry fun s3 I3 => ?_))))
  exact wpAny_release ⟨σ, _, I3, q2⟩
end Mine

set_option Elab.async false
set_option linter.all false
set_option maxRecDepth 100000
set_option maxHeartbeats 4000000
/-! The deck: its cells, the mixed number, how many draws; a draw lies below what is asked. -/
namespace K09
open PySem PySem.Spec PyProof.Rows L2 Mine
def top (i : Nat) : Stmt := PySem.Challenge.pw_sealedalike_k09_names_and_replacements.main.body.getD i (.Pass ⟨0, 0, 0, 0⟩)
abbrev sDeck : Stmt := top 47
abbrev sDraw : Stmt := top 48
def deckD (dl : Addr) (m t : Int) : List (Key × V) := [(Sum.inr (PySem.Str.ofString "cells"), .ref dl), (Sum.inr (PySem.Str.ofString "mixed"), .int m), (Sum.inr (PySem.Str.ofString "draws"), .int t)]
theorem neCM : ¬ (Sum.inr (PySem.Str.ofString "cells") : Key) = Sum.inr (PySem.Str.ofString "mixed") := by decide +kernel
theorem neCD : ¬ (Sum.inr (PySem.Str.ofString "cells") : Key) = Sum.inr (PySem.Str.ofString "draws") := by decide +kernel
theorem neMD : ¬ (Sum.inr (PySem.Str.ofString "mixed") : Key) = Sum.inr (PySem.Str.ofString "draws") := by decide +kernel
theorem vC {dl : Addr} {m t : Int} : valV (deckD dl m t) (Sum.inr (PySem.Str.ofString "cells")) = some (.ref dl) := valV_pos rfl
theorem vM {dl : Addr} {m t : Int} : valV (deckD dl m t) (Sum.inr (PySem.Str.ofString "mixed")) = some (.int m) := (valV_neg neCM).trans (valV_pos rfl)
theorem vD {dl : Addr} {m t : Int} : valV (deckD dl m t) (Sum.inr (PySem.Str.ofString "draws")) = some (.int t) := (valV_neg neCD).trans ((valV_neg neMD).trans (valV_pos rfl))
theorem pD {dl : Addr} {m t u : Int} : putK (deckD dl m t) (Sum.inr (PySem.Str.ofString "draws")) (.int u) = deckD dl m u := by
  have h1 := neCD
  have h2 := neMD
  have e1 : ¬ PySem.Str.ofString "cells" = PySem.Str.ofString "draws" := fun q => h1 (congrArg Sum.inr q)
  have e2 : ¬ PySem.Str.ofString "mixed" = PySem.Str.ofString "draws" := fun q => h2 (congrArg Sum.inr q)
  unfold putK deckD
  simp [e1, e2]
theorem gC {H : Hp} {dk dl : Addr} {m t : Int} (h : H dk = some (.dK (deckD dl m t))) : DGet H dk (.str (PySem.Str.ofString "cells")) (some (.ref dl)) := by
  have q := DGet.k (k := Sum.inr (PySem.Str.ofString "cells")) h
  rw [vC] at q
  exact q
theorem gM {H : Hp} {dk dl : Addr} {m t : Int} (h : H dk = some (.dK (deckD dl m t))) : DGet H dk (.str (PySem.Str.ofString "mixed")) (some (.int m)) := by
  have q := DGet.k (k := Sum.inr (PySem.Str.ofString "mixed")) h
  rw [vM] at q
  exact q
theorem gD {H : Hp} {dk dl : Addr} {m t : Int} (h : H dk = some (.dK (deckD dl m t))) : DGet H dk (.str (PySem.Str.ofString "draws")) (some (.int t)) := by
  have q := DGet.k (k := Sum.inr (PySem.Str.ofString "draws")) h
  rw [vD] at q
  exact q
theorem ppD {H : Hp} {dk dl : Addr} {m t u : Int} (h : H dk = some (.dK (deckD dl m t))) : DPut H dk (.str (PySem.Str.ofString "draws")) (.int u) (upd H dk (.dK (deckD dl m u))) := by
  have q := DPut.k (k := Sum.inr (PySem.Str.ofString "draws")) (v := .int u) h (by show 3 < sizeLine; decide)
  rw [pD] at q
  exact q
/-- the deck stands at dk, its cells at dl, after t draws -/
structure DeckAt (H : Hp) (dk dl : Addr) (t : Int) : Prop where
  d : ∃ m, H dk = some (.dK (deckD dl m t)) ∧ 0 ≤ m ∧ m < 2147483587
  l : ∃ cs : List Int, H dl = some (.lst (cs.map V.int)) ∧ cs.length ≤ 63
/-- all but the deck stands -/
def Keep (dk dl : Addr) (H H' : Hp) : Prop := ∀ b o, b ≠ dk → b ≠ dl → H b = some o → H' b = some o
def spDraw : Sp := fun vs H Q _ => ∃ (dk dl : Addr) (b t : Int), vs = [.ref dk, .int b] ∧ DeckAt H dk dl t ∧ 1 ≤ b ∧ b ≤ 1000 ∧ 0 ≤ t ∧ t ≤ 100000 ∧
  ∀ (r : Int) (H' : Hp), 0 ≤ r → r < b → DeckAt H' dk dl (t + 1) → Keep dk dl H H' → Q (.int r) H'
structure TxtD (mg : Str → Option Value) : Prop where
  int : mg "int" = none
  lst : mg "list" = none
theorem ints_dp {H : Hp} {K : PySem.W.Frag} : ∀ cs : List Int, DpAll K H (cs.map V.int) (cs.map PyData.int)
  | [] => .nil
  | c :: cs => .cons (.int c) (ints_dp cs)
theorem ints_lay : ∀ cs : List Int, PyData.canLayAll0 (cs.map PyData.int) = true
  | [] => by simp [PyData.canLayAll0]
  | c :: cs => by simp [PyData.canLayAll0, PyData.canLay0, ints_lay cs]
theorem ints_dep : ∀ cs : List Int, PyData.depthAll (cs.map PyData.int) = 0
  | [] => by simp [PyData.depthAll]
  | c :: cs => by simp [PyData.depthAll, PyData.depth, ints_dep cs]
theorem ints_shaped (cs : List Int) : SeqAt.shaped (.list (cs.map PyData.int)) = true := by
  show (PyData.canLay0 (.list (cs.map PyData.int)) && decide (PyData.depth (.list (cs.map PyData.int)) ≤ 64)) = true
  rw [Bool.and_eq_true]
  refine ⟨by simp only [PyData.canLay0]; exact ints_lay cs, decide_eq_true ?_⟩
  simp only [PyData.depth, ints_dep]
  decide
section
variable {P : Program} {w : World} {K : PySem.W.Frag} {mg : Str → Option Value} {base : Heap}
theorem scDraw : FnScope ["_law_deck_here", "_law_below", "_law_turn", "_law_cell", "_law_figure"] ["_law_deck_here", "_law_below"] (defScope sDraw) := ⟨rfl, rfl, rfl, by decide +kernel, rfl, by decide +kernel, by decide +kernel⟩
theorem ok_draw {f : Addr} {fd : FuncData} (F : Fun K "_law_draw" "_law_draw" sDraw f fd) (T : TxtD mg) : FnOk P w K mg base CX0 1 f fd ["_law_deck_here", "_law_below"] spDraw := by
  refine F.ok scDraw (fun vs H Q E h => ?_) (fun cdv A outer s H vs Q E hr h => ?_)
  · obtain ⟨dk, dl, b, t, rfl, _⟩ := h
    rfl
  · obtain ⟨dk, dl, b, t, rfl, ⟨⟨m, hd, m0, m1⟩, ⟨cs, hl, hcs⟩⟩, b1, b2, t0, t1, k⟩ := h
    have hu := hu_of hr
    have ne : dk ≠ dl := ne_of hd hl (by intro z; cases z)
    have em : ∀ (i j : Int), 0 < j → 0 ≤ i % j ∧ i % j < j := fun i j h => ⟨Int.emod_nonneg i (Int.ne_of_gt h), Int.emod_lt_of_pos i h⟩
    -- the last three statements
    have tail : ∃ tl, PSs (cxOf CX0 P w K mg base ["_law_deck_here", "_law_below", "_law_turn", "_law_cell", "_law_figure"] "_law_draw" (defScope sDraw) f cdv A outer s H E).nox ((defBody sDraw).drop 3) tl ∧
        ∀ (c : Int) (v : Option V) (H2 : Hp), DeckAt H2 dk dl (t + 1) → Keep dk dl H H2 → tl { nx := fun _ H' => Q .non H', rt := Q } [some (.ref dk), some (.int b), some (.int (t + 1)), some (.int c), v] H2 := by
      refine ⟨_, pss_cons (ps_set (i := 4) scDraw.nd rfl (.inl rfl) (pe_op op_mod (pe_op op_mul (pe_callTy call_int1 (by rfl) T.int (by decide +kernel) (pa_cons (pe_op op_add (pe_op op_add (pe_op op_mod (pe_callTy call_int1 (by rfl) T.int (by decide +kernel) (pa_cons (pv 3) pa_nil)) pe_int) (pe_op op_mul (pe_op op_mul pe_int (pv 2)) (pv 2))) pe_int) pa_nil)) pe_int) pe_int))
        (pss_cons (ps_set (i := 4) scDraw.nd rfl (.inl rfl) (pe_op op_mod (pe_callTy call_int1 (by rfl) T.int (by decide +kernel) (pa_cons (pe_op op_add (pe_op op_add (pe_op op_mul (pv 4) (pv 4)) (pe_op op_mul pe_int (pv 2))) pe_int) pa_nil)) pe_int))
        (pss_one (ps_ret (pe_op op_mod (pe_op op_fdiv (pe_op op_mod (pe_callTy call_int1 (by rfl) T.int (by decide +kernel) (pa_cons (pe_op op_mul (pv 4) pe_int) pa_nil)) pe_int) pe_int) (pv 1))))), ?_⟩
      intro c v H2 hD hK
      have u1 : CMul 60718 (t + 1) := .inl ⟨by decide, by decide⟩
      refine ⟨_, rfl, .inl ⟨_, rfl, _, _, rfl, rfl, (by decide : (0 : Int) < 2147483629), _, rfl, _, _, rfl, rfl, u1, _, rfl, _, _, rfl, rfl, .inr ⟨by omega, by omega⟩, _, _, rfl, rfl, _, _, rfl, rfl, .inl ⟨_, rfl, _, _, rfl, rfl, .inr ⟨by decide, by decide⟩, _, _, rfl, rfl, (by decide : (0 : Int) < 2147483647), ?_⟩⟩⟩
      have b3 := em ((c % 2147483629 + 60718 * (t + 1) * (t + 1) + 102) * 40692) 2147483647 (by decide)
      refine ⟨_, rfl, _, rfl, _, _, rfl, rfl, .inl ⟨Int.lt_of_lt_of_le (by decide) b3.1, Int.lt_trans b3.2 (by decide)⟩, _, rfl, _, _, rfl, rfl, .inl ⟨by decide, by decide⟩, _, _, rfl, rfl, _, _, rfl, rfl, .inl ⟨_, rfl, _, _, rfl, rfl, (by decide : (0 : Int) < 2147483579), ?_⟩⟩
      refine ⟨_, rfl, _, _, rfl, rfl, .inr ⟨by decide, by decide⟩, .inl ⟨_, rfl, _, _, rfl, rfl, (by decide : (0 : Int) < 2147483563), _, _, rfl, rfl, ⟨by decide, by decide⟩, _, rfl, _, _, rfl, rfl, (by omega : (0 : Int) < b), ?_⟩⟩
      exact k _ _ (em _ b (by omega)).1 (em _ b (by omega)).2 hD hK
    obtain ⟨tl, htl, ptl⟩ := tail
    refine ⟨_, pss_cons (ps_dput hu (pv 0) pe_str (pe_op op_add (pe_dget hu (pv 0) pe_str (fun _ _ => rfl)) pe_int) rfl)
      (pss_cons (ps_par (i := 2) (j := 3) rfl scDraw.nd rfl rfl (by decide) rfl rfl (pa_cons (pe_dget hu (pv 0) pe_str (fun _ _ => rfl)) (pa_cons (pe_dget hu (pv 0) pe_str (fun _ _ => rfl)) pa_nil)) (by rfl))
      (pss_cons (ps_if (pt_cmpR (op_neD hr.units) (pe_dget hu (pv 0) pe_str (fun _ _ => rfl)) (pe_lst pa_nil) (nomark _))
        (pss_cons (ps_set (i := 3) scDraw.nd rfl (.inl rfl) (pe_bm0 PySem.F.plainAttrs_list PySem.F.slot_list_pop PySem.F.type_list_pop mt_pop (pe_dget hu (pv 0) pe_str (fun _ _ => rfl))))
        (pss_cons (ps_if (pt_cmpR op_ge (pv 3) (pe_op op_pow pe_int pe_int) (nomark _))
          (pss_cons (ps_expr (pe_bm PySem.F.plainAttrs_list PySem.F.slot_list_append PySem.F.type_list_append mt_append (pe_dget hu (pv 0) pe_str (fun _ _ => rfl)) (pa_cons (pe_op op_fdiv (pv 3) (pv 1)) pa_nil)))
          (pss_one (ps_ret (pe_op op_mod (pe_callTy call_int1 (by rfl) T.int (by decide +kernel) (pa_cons (pv 3) pa_nil)) (pv 1))))) pss_nil)
        (pss_one (ps_set (i := 3) scDraw.nd rfl (.inl rfl) (pe_op op_add (pe_callTy call_int1 (by rfl) T.int (by decide +kernel) (pa_cons (pv 3) pa_nil)) (pe_dget hu (pv 0) pe_str (fun _ _ => rfl))))))) pss_nil)
      htl)), ?_⟩
    refine ⟨_, rfl, dk, _, rfl, gD hd, _, _, rfl, rfl, _, rfl, dk, _, rfl, ppD hd, ?_⟩
    have hd1 : upd H dk (.dK (deckD dl m (t + 1))) dk = some (.dK (deckD dl m (t + 1))) := upd_same
    have hl1 : upd H dk (.dK (deckD dl m (t + 1))) dl = some (.lst (cs.map V.int)) := (upd_ne ne.symm).trans hl
    have k1 : Keep dk dl H (upd H dk (.dK (deckD dl m (t + 1)))) := fun c o h1 _ e => (upd_ne h1).trans e
    generalize upd H dk (.dK (deckD dl m (t + 1))) = H1 at hd1 hl1 k1
    refine ⟨_, rfl, dk, _, rfl, gD hd1, _, rfl, dk, _, rfl, gM hd1, _, _, rfl, ?_⟩
    refine ⟨_, rfl, dk, _, rfl, gC hd1, (by show 0 ≤ sizeLine; exact Nat.zero_le _), fun p hp => ?_⟩
    have np : ∀ {b : Addr} {o : HO}, H1 b = some o → b ≠ p := fun e => ne_of_none e hp
    have kp : Keep dk dl H (upd H1 p (.lst [])) := fun c o h1 h2 e => (upd_ne (np (k1 c o h1 h2 e))).trans (k1 c o h1 h2 e)
    have hd2 : upd H1 p (.lst []) dk = _ := (upd_ne (np hd1)).trans hd1
    have hl2 : upd H1 p (.lst []) dl = _ := (upd_ne (np hl1)).trans hl1
    have hp2 : upd H1 p (.lst []) p = some (.lst []) := upd_same
    generalize upd H1 p (.lst []) = H2 at kp hd2 hl2 hp2
    refine ⟨_, _, .lst (.inl (.inl hl2)) (ints_dp cs), .lst (.inl (.inl hp2)) .nil, ints_shaped cs, rfl, _, rfl, ?_⟩
    cases cs with
    | nil =>
      refine iteF ?_
      exact ptl m none H2 ⟨⟨m, hd2, m0, m1⟩, ⟨[], hl2, Nat.zero_le _⟩⟩ kp
    | cons c0 cr =>
      refine iteT ?_
      obtain ⟨z, hz⟩ : ∃ z, ((c0 :: cr).map V.int)[((c0 :: cr).map V.int).length - 1]? = some (V.int z) := by
        refine ⟨(c0 :: cr).getLast (List.cons_ne_nil _ _), ?_⟩
        rw [List.length_map, List.getElem?_map, ← List.getLast?_eq_getElem?]
        rfl
      have hdrop : ((c0 :: cr).map V.int).dropLast = (c0 :: cr).dropLast.map V.int := (List.map_dropLast).symm
      have hlen : (c0 :: cr).dropLast.length ≤ 62 := by
        rw [List.length_dropLast]
        omega
      refine ⟨_, rfl, dk, _, rfl, gC hd2, .inl ⟨rfl, _, .inl (.inl hl2)⟩, dl, _, _, rfl, rfl, hl2, hz, ?_⟩
      rw [hdrop]
      have hd3 : upd H2 dl (.lst ((c0 :: cr).dropLast.map V.int)) dk = _ := (upd_ne ne).trans hd2
      have hl3 : upd H2 dl (.lst ((c0 :: cr).dropLast.map V.int)) dl = _ := upd_same
      have k3 : Keep dk dl H (upd H2 dl (.lst ((c0 :: cr).dropLast.map V.int))) := fun c o h1 h2 e => (upd_ne h2).trans (kp c o h1 h2 e)
      generalize (c0 :: cr).dropLast = dr at hd3 hl3 k3 hlen
      generalize upd H2 dl (.lst (dr.map V.int)) = H3 at hd3 hl3 k3
      refine ⟨_, rfl, _, _, rfl, rfl, ⟨by decide, by decide, by decide⟩, _, _, rfl, rfl, _, rfl, ?_⟩
      refine ite2 (fun _ => ?_) (fun _ => ?_)
      · refine ⟨_, rfl, dk, _, rfl, gC hd3, .inl ⟨rfl, _, .inl (.inl hl3)⟩, _, rfl, _, rfl, _, _, rfl, rfl, ⟨by omega, by omega⟩, dl, _, _, rfl, rfl, hl3, ?_, ?_⟩
        · show (dr.map V.int).length < sizeLine
          rw [List.length_map, sizeLine_eq]
          omega
        · refine ⟨_, rfl, .inl ⟨_, rfl, _, rfl, _, _, rfl, rfl, (by omega : (0 : Int) < b), ?_⟩⟩
          refine k _ _ (em z b (by omega)).1 (em z b (by omega)).2 ⟨⟨m, (upd_ne ne).trans hd3, m0, m1⟩, ⟨dr ++ [z / b], ?_, ?_⟩⟩ fun c o h1 h2 e => (upd_ne h2).trans (k3 c o h1 h2 e)
          · rw [upd_same, List.map_append]
            rfl
          · rw [List.length_append]
            show dr.length + 1 ≤ 63
            omega
      · refine ⟨_, rfl, .inl ⟨_, rfl, _, rfl, dk, _, rfl, gM hd3, _, _, rfl, rfl, ?_⟩⟩
        exact ptl (z + m) none H3 ⟨⟨m, hd3, m0, m1⟩, ⟨dr, hl3, by omega⟩⟩ k3
end
end K09

set_option Elab.async false
set_option linter.all false
set_option maxRecDepth 100000
set_option maxHeartbeats 4000000
/-! The deck is made of the script. -/
namespace K09
open PySem PySem.Spec PyProof.Rows L2 Mine
def spDeck (K : PySem.W.Frag) : Sp := fun vs H Q _ => ∃ (a : Addr) (ns : List Int), vs = [.ref a] ∧ SqL K H a (ns.map V.int) ∧ ns.length ≤ 63 ∧
  ∀ (dk dl : Addr) (H' : Hp), Same H H' → H dk = none → H dl = none → DeckAt H' dk dl 0 → Q (.ref dk) H'
theorem merged {dl : Addr} {m : Int} : mergeK [] (deckD dl m 0) = deckD dl m 0 := by
  have e1 : ¬ PySem.Str.ofString "cells" = PySem.Str.ofString "mixed" := fun q => neCM (congrArg Sum.inr q)
  have e2 : ¬ PySem.Str.ofString "cells" = PySem.Str.ofString "draws" := fun q => neCD (congrArg Sum.inr q)
  have e3 : ¬ PySem.Str.ofString "mixed" = PySem.Str.ofString "draws" := fun q => neMD (congrArg Sum.inr q)
  simp [mergeK, deckD, putK, e1, e2, e3]
theorem same_new {H H1 : Hp} {p : Addr} {o : HO} (h : Same H H1) (hp : H1 p = none) : Same H (upd H1 p o) := fun b u e => (upd_ne (ne_of_none (h b u e) hp)).trans (h b u e)
section
variable {P : Program} {w : World} {K : PySem.W.Frag} {mg : Str → Option Value} {base : Heap}
theorem scDeck : FnScope ["_law_script", "_law_cells", "_law_mixed", "_law_cell"] ["_law_script"] (defScope sDeck) := ⟨rfl, rfl, rfl, by decide +kernel, rfl, by decide +kernel, by decide +kernel⟩
theorem ok_deck {f : Addr} {fd : FuncData} (F : Fun K "_law_deck" "_law_deck" sDeck f fd) (T : TxtD mg) : FnOk P w K mg base CX0 1 f fd ["_law_script"] (spDeck K) := by
  refine F.ok scDeck (fun vs H Q E h => ?_) (fun cdv A outer s H vs Q E hr h => ?_)
  · obtain ⟨a, ns, rfl, _⟩ := h
    rfl
  · obtain ⟨a, ns, rfl, hS, hlen, k⟩ := h
    have em : ∀ (i j : Int), 0 < j → 0 ≤ i % j ∧ i % j < j := fun i j h => ⟨Int.emod_nonneg i (Int.ne_of_gt h), Int.emod_lt_of_pos i h⟩
    refine ⟨_, pss_cons (ps_par (i := 1) (j := 2) rfl scDeck.nd rfl rfl (by decide) rfl rfl (pa_cons (pe_callTy call_list_of (by rfl) T.lst (by decide +kernel) (pa_cons (pe_slice sl_list (pv 0) po_none (po_some pe_int)) pa_nil)) (pa_cons pe_int pa_nil)) (by rfl))
      (pss_cons (ps_for PassesOwn.never rfl (pi_list (pv 1)) (pg_name (i := 3) scDeck.nd rfl (.inl rfl))
        (pss_one (ps_set (i := 2) scDeck.nd rfl (.inl rfl) (pe_op op_mod (pe_callTy call_int1 (by rfl) T.int (by decide +kernel) (pa_cons (pe_op op_add (pe_op op_add (pe_op op_mul (pv 2) pe_int) (pe_op op_mod (pe_callTy call_int1 (by rfl) T.int (by decide +kernel) (pa_cons (pv 3) pa_nil)) pe_int)) pe_int) pa_nil)) pe_int))))
      (pss_one (ps_ret (pe_disp (pps_cons pe_str (pe_revL (pv 1)) (pps_cons pe_str (pv 2) (pps_cons pe_str pe_int pps_nil))) (by rfl) (by rfl) (fun z => by cases z) (by decide))))), ?_⟩
    refine ⟨_, rfl, _, rfl, a, _, rfl, hS, fun p hp => ⟨p, _, rfl, .inl (SqL.of upd_same), fun l hl => ?_⟩⟩
    obtain ⟨cs, ecs, hcs⟩ : ∃ cs : List Int, cutV (ns.map V.int) none (some 63) = cs.map V.int ∧ cs.length ≤ 63 := by
      refine ⟨(ns.drop (HT.sIx (ns.map V.int).length 0 none)).take (HT.sIx (ns.map V.int).length (ns.map V.int).length (some 63) - HT.sIx (ns.map V.int).length 0 none), ?_, ?_⟩
      · unfold cutV
        rw [List.map_take, List.map_drop]
      · rw [List.length_take, List.length_drop]
        omega
    rw [ecs]
    have s1 : Same H (upd H p (.lst (cs.map V.int))) := same_new (fun _ _ e => e) hp
    have s2 : Same H (upd (upd H p (.lst (cs.map V.int))) l (.lst (cs.map V.int))) := same_new s1 (by rw [← ecs]; exact hl)
    have hl2 : upd (upd H p (.lst (cs.map V.int))) l (.lst (cs.map V.int)) l = some (.lst (cs.map V.int)) := upd_same
    generalize upd (upd H p (.lst (cs.map V.int))) l (.lst (cs.map V.int)) = H1 at s2 hl2
    refine ⟨_, _, rfl, ?_⟩
    refine ⟨_, rfl, l, rfl, ⟨_, .inl (.inl hl2)⟩, for_list (K := K) (a := l) (xs := cs.map V.int) (fun i σ H2 => ∃ (m : Int) (v : Option V), σ = [some (.ref a), some (.ref l), some (.int m), v] ∧ H2 = H1 ∧ 0 ≤ m ∧ m < 2147483587)
      ⟨1085709, none, rfl, rfl, by decide, by decide⟩ (fun i σ H2 _ ⟨_, _, _, e, _⟩ => by rw [e]; exact .inl (.inl hl2)) ?_ ?_⟩
    · rintro i y σ H2 hi ⟨m, v, rfl, rfl, m0, m1⟩
      obtain ⟨z, rfl⟩ : ∃ z, y = V.int z := by
        rw [List.getElem?_map] at hi
        cases e : cs[i]? with
        | none =>
          rw [e] at hi
          cases hi
        | some z =>
          rw [e] at hi
          exact ⟨z, (Option.some.inj hi).symm⟩
      refine ⟨_, rfl, _, _, rfl, rfl, .inr ⟨by decide, by decide⟩, _, rfl, .inl ⟨_, rfl, _, _, rfl, rfl, (by decide : (0 : Int) < 2147483629), _, _, rfl, rfl, _, _, rfl, rfl, .inl ⟨_, rfl, _, _, rfl, rfl, (by decide : (0 : Int) < 2147483587), ?_⟩⟩⟩
      exact ⟨_, _, rfl, rfl, (em _ _ (by decide)).1, (em _ _ (by decide)).2⟩
    · rintro σ H2 ⟨m, v, rfl, rfl, m0, m1⟩
      intro d hd
      have nl : l ≠ d := ne_of_none hl2 hd
      refine ⟨_, rfl, l, _, rfl, .inl (.inl ((upd_ne nl).trans hl2)), fun q hq => ⟨_, rfl, ?_⟩⟩
      have nq : d ≠ q := ne_of_none upd_same hq
      refine ⟨(upd_ne nq).trans upd_same, deckD q m 0, rfl, (by show 3 ≤ 15; decide), ?_⟩
      have fr : ∀ {c : Addr}, H2 c = none → H c = none := fun {c} e => by
        cases z : H c with
        | none => rfl
        | some o =>
          rw [s2 c o z] at e
          cases e
      have hq0 : H2 q = none := (upd_ne nq.symm).symm.trans hq
      rw [merged]
      refine k d q _ (fun b o e => ?_) (fr hd) (fr hq0) ⟨⟨m, upd_same, m0, m1⟩, ⟨cs.reverse, ?_, ?_⟩⟩
      · rw [upd_ne (ne_of_none (s2 b o e) hd), upd_ne (ne_of_none (s2 b o e) hq0), upd_ne (ne_of_none (s2 b o e) hd)]
        exact s2 b o e
      · rw [upd_ne nq.symm, upd_same, List.map_reverse]
      · rw [List.length_reverse]
        exact hcs
end
end K09

set_option Elab.async false
set_option linter.all false
set_option maxRecDepth 100000
set_option maxHeartbeats 4000000
/-! Heaps that keep, new things, data shown; picks and needs. -/
namespace K09
open PySem PySem.Spec PyProof.Rows L2 Mine
/-- what is new in a heap -/
def Nw (H H' : Hp) : Hp := fun b => if H b = none then H' b else none
theorem Nw.at {H H' : Hp} {b : Addr} {o : HO} (h : H b = none) (e : H' b = some o) : Nw H H' b = some o := by
  unfold Nw
  rw [if_pos h]
  exact e
theorem Nw.of {H H' : Hp} {b : Addr} {o : HO} (e : Nw H H' b = some o) : H b = none ∧ H' b = some o := by
  unfold Nw at e
  by_cases h : H b = none
  · rw [if_pos h] at e
    exact ⟨h, e⟩
  · rw [if_neg h] at e
    cases e
theorem Nw.mono {H0 H H' H'' : Hp} (dom : ∀ b, H b = none → H0 b = none) (k : ∀ b o, H b = none → H' b = some o → H'' b = some o) : ∀ b o, Nw H H' b = some o → Nw H0 H'' b = some o := fun b o e =>
  let ⟨h1, h2⟩ := Nw.of e
  Nw.at (dom b h1) (k b o h1 h2)
theorem Keep.trans {dk dl : Addr} {H H1 H2 : Hp} (a : Keep dk dl H H1) (b : Keep dk dl H1 H2) : Keep dk dl H H2 := fun c o h1 h2 e => b c o h1 h2 (a c o h1 h2 e)
theorem Keep.new {dk dl p : Addr} {H H1 : Hp} {o : HO} (a : Keep dk dl H H1) (hp : H1 p = none) : Keep dk dl H (upd H1 p o) := fun c u h1 h2 e => (upd_ne (ne_of_none (a c u h1 h2 e) hp)).trans (a c u h1 h2 e)
theorem Keep.refl {dk dl : Addr} {H : Hp} : Keep dk dl H H := fun _ _ _ _ e => e
theorem DeckAt.new {dk dl p : Addr} {H : Hp} {t : Int} {o : HO} (h : DeckAt H dk dl t) (hp : H p = none) : DeckAt (upd H p o) dk dl t := by
  obtain ⟨⟨m, h1, m0, m1⟩, ⟨cs, h2, l⟩⟩ := h
  exact ⟨⟨m, (upd_ne (ne_of_none h1 hp)).trans h1, m0, m1⟩, ⟨cs, (upd_ne (ne_of_none h2 hp)).trans h2, l⟩⟩
theorem DeckAt.off {dk dl p : Addr} {H : Hp} {t : Int} (h : DeckAt H dk dl t) (hp : H p = none) : p ≠ dk ∧ p ≠ dl := by
  obtain ⟨⟨m, h1, _⟩, ⟨cs, h2, _⟩⟩ := h
  exact ⟨(ne_of_none h1 hp).symm, (ne_of_none h2 hp).symm⟩
theorem DeckAt.dom {dk dl : Addr} {H H' : Hp} {t t' : Int} (h : DeckAt H dk dl t) (h' : DeckAt H' dk dl t') (k : Keep dk dl H H') : ∀ b, H' b = none → H b = none := fun b e => by
  cases z : H b with
  | none => rfl
  | some o =>
    by_cases e1 : b = dk
    · obtain ⟨⟨m, h1, _⟩, _⟩ := h'
      rw [e1, h1] at e
      cases e
    · by_cases e2 : b = dl
      · obtain ⟨_, ⟨cs, h2, _⟩⟩ := h'
        rw [e2, h2] at e
        cases e
      · rw [k b o e1 e2 z] at e
        cases e
/-- what a deed on the deck alone leaves of new things -/
theorem Keep.news {dk dl : Addr} {H H' H'' : Hp} {t : Int} (h : DeckAt H dk dl t) (k : Keep dk dl H' H'') : ∀ b o, H b = none → H' b = some o → H'' b = some o := fun b o n e =>
  let ⟨h1, h2⟩ := h.off n
  k b o h1 h2 e
theorem _root_.Mine.Shows.up {n n' l l' : Nat} {d : PyData} (h : Shows n l d) (h1 : n ≤ n') (h2 : l ≤ l') : Shows n' l' d := ⟨h.ok, Nat.le_trans h.len h1, Nat.le_trans h.dep h2⟩
/-- all of them -/
theorem _root_.Mine.DKs.snoc' {H : Hp} {vs : List V} {ds : List PyData} {v : V} {d : PyData} (a : DKs H vs ds) (h : DK H v d) : DKs H (vs ++ [v]) (ds ++ [d]) := DKs.snoc h a
structure ShowsAll (n l k : Nat) (ds : List PyData) : Prop where
  ok : PyData.showableAll ds = true
  len : ((PyData.shownAll ds).map (·.length)).sum ≤ n * k
  num : (PyData.shownAll ds).length ≤ k
  dep : PyData.depthAll ds ≤ l
theorem ShowsAll.nil {n l : Nat} : ShowsAll n l 0 [] := ⟨by simp [PyData.showableAll], by simp [PyData.shownAll], by simp [PyData.shownAll], by simp [PyData.depthAll]⟩
theorem ShowsAll.snoc {n l k : Nat} {d : PyData} (h : Shows n l d) : ∀ {ds : List PyData}, ShowsAll n l k ds → ShowsAll n l (k + 1) (ds ++ [d]) := fun {ds} a => by
  have ap1 : ∀ xs : List PyData, PyData.showableAll (xs ++ [d]) = (PyData.showableAll xs && d.showable) := fun xs => by
    induction xs with
    | nil => simp [PyData.showableAll]
    | cons x r ih => simp [PyData.showableAll, ih, Bool.and_assoc]
  have ap2 : ∀ xs : List PyData, PyData.shownAll (xs ++ [d]) = PyData.shownAll xs ++ [d.shown] := fun xs => by
    induction xs with
    | nil => simp [PyData.shownAll]
    | cons x r ih => simp [PyData.shownAll, ih]
  have ap3 : ∀ xs : List PyData, PyData.depthAll (xs ++ [d]) = max (PyData.depthAll xs) d.depth := fun xs => by
    induction xs with
    | nil => simp [PyData.depthAll]
    | cons x r ih =>
      simp only [List.cons_append, PyData.depthAll, ih]
      omega
  refine ⟨by rw [ap1, a.ok, h.ok]; rfl, ?_, ?_, ?_⟩
  · rw [ap2, List.map_append, List.sum_append, Nat.mul_succ]
    have := h.len
    have := a.len
    simp only [List.map_cons, List.map_nil, List.sum_cons, List.sum_nil]
    omega
  · rw [ap2, List.length_append]
    have := a.num
    simp only [List.length_cons, List.length_nil]
    omega
  · rw [ap3]
    have := h.dep
    have := a.dep
    omega
theorem ShowsAll.list {n l k : Nat} {ds : List PyData} (a : ShowsAll n l k ds) (hk : k ≤ 3) : Shows (3 * n + 9) (l + 1) (.list ds) := by
  have h1 := listText_len_le (PyData.shownAll ds)
  have h2 : n * k ≤ n * 3 := Nat.mul_le_mul_left n hk
  have h3 := a.len
  have h4 := a.num
  have h5 := a.dep
  exact ⟨by simpa only [PyData.showable] using a.ok, by simp only [PyData.shown]; omega, by simp only [PyData.depth]; omega⟩
theorem ShowsAll.tuple {n l k : Nat} {ds : List PyData} (a : ShowsAll n l k ds) (hk : k ≤ 3) : Shows (3 * n + 9) (l + 1) (.tuple ds) := by
  have h1 := tupleText_len_le (PyData.shownAll ds)
  have h2 : n * k ≤ n * 3 := Nat.mul_le_mul_left n hk
  have h3 := a.len
  have h4 := a.num
  have h5 := a.dep
  exact ⟨by simpa only [PyData.showable] using a.ok, by simp only [PyData.shown]; omega, by simp only [PyData.depth]; omega⟩
theorem pick {xs : List V} {r : Int} (h0 : 0 ≤ r) (h1 : r < (xs.length : Int)) : ∃ y, y ∈ xs ∧ atI xs r = some y := by
  obtain ⟨j, rfl⟩ := Int.eq_ofNat_of_zero_le h0
  have hj : j < xs.length := by omega
  exact ⟨xs[j], List.getElem_mem hj, atI_nat (List.getElem?_eq_getElem hj)⟩
theorem same_rfl {H : Hp} : Same H H := fun _ _ e => e
theorem same_tr {H H1 H2 : Hp} (a : Same H H1) (b : Same H1 H2) : Same H H2 := fun p o e => b p o (a p o e)
theorem same_free {H H' : Hp} (k : Same H H') {b : Addr} (e : H' b = none) : H b = none := by
  cases z : H b with
  | none => rfl
  | some o =>
    rw [k b o z] at e
    cases e

end K09

set_option Elab.async false
set_option linter.all false
set_option maxRecDepth 100000
set_option maxHeartbeats 4000000
/-! A pick out of a list; a need. -/
namespace K09
open PySem PySem.Spec PyProof.Rows L2 Mine
abbrev sPick : Stmt := top 49
abbrev sNeed : Stmt := top 50
mutual
theorem dk_dp {H : Hp} (K : PySem.W.Frag) : ∀ (d : PyData) (v : V), DK H v d → d.canLay0 = true → Dp K H v d
  | .none, _, h, _ => by cases h; exact .non
  | .bool b, _, h, _ => by cases h; exact .bl b
  | .int i, _, h, _ => by cases h; exact .int i
  | .str x, _, h, _ => by cases h; exact .str x
  | .list ds, _, h, c => by
    cases h with
    | lst e r => exact .lst (.inl (.inl e)) (dks_dp K ds _ r (by simpa [PyData.canLay0] using c))
  | .tuple ds, _, h, c => by
    cases h with
    | tup e r => exact .tup (.inl (.inl e)) (dks_dp K ds _ r (by simpa [PyData.canLay0] using c))
  | .dict _, _, _, c => by simp [PyData.canLay0] at c
theorem dks_dp {H : Hp} (K : PySem.W.Frag) : ∀ (ds : List PyData) (vs : List V), DKs H vs ds → PyData.canLayAll0 ds = true → DpAll K H vs ds
  | [], _, h, _ => by cases h; exact .nil
  | d :: ds, _, h, c => by
    have c' : d.canLay0 = true ∧ PyData.canLayAll0 ds = true := by simpa [PyData.canLayAll0] using c
    cases h with
    | cons h1 h2 => exact .cons (dk_dp K d _ h1 c'.1) (dks_dp K ds _ h2 c'.2)
end
def spPick : Sp := fun vs H Q _ => ∃ (dk dl s : Addr) (t : Int) (xs : List V), vs = [.ref dk, .ref s] ∧ DeckAt H dk dl t ∧ s ≠ dl ∧ H s = some (.lst xs) ∧ xs ≠ [] ∧ xs.length ≤ 100 ∧ 0 ≤ t ∧ t ≤ 100000 ∧
  ∀ (y : V) (H' : Hp), y ∈ xs → DeckAt H' dk dl (t + 1) → Keep dk dl H H' → Q y H'
structure TxtP (K : PySem.W.Frag) (mg : Str → Option Value) (fD fP : Addr) : Prop extends TxtD mg where
  len : mg "len" = none
  gD : mg "_law_draw" = some (.ref fD)
  kD : PySem.W.keepIn K (.ref fD) = true
  gP : mg "_law_pick" = some (.ref fP)
  kP : PySem.W.keepIn K (.ref fP) = true
/-- a need of a kind of m parts, the kinds of one part being ss -/
def NeedOk (m : Int) (ss : List Str) (d : PyData) : Prop :=
  (∃ j : Int, 0 ≤ j ∧ j < m ∧ d = .tuple [.str (PySem.Str.ofString "part"), .int j]) ∨
  (∃ (c : Str) (j : Int), c ∈ ss ∧ 0 ≤ j ∧ j < m ∧ d = .tuple [.str (PySem.Str.ofString "around"), .str c, .int j]) ∨
  ∃ (c : Str) (j : Int), c ∈ ss ∧ 0 ≤ j ∧ j < m ∧ d = .tuple [.str (PySem.Str.ofString "inside"), .int j, .str c]
def spNeed : Sp := fun vs H Q _ => ∃ (dk dl s : Addr) (t m : Int) (ss : List Str), vs = [.ref dk, .ref s, .int m] ∧ DeckAt H dk dl t ∧ s ≠ dl ∧ H s = some (.lst (ss.map V.str)) ∧ ss.length ≤ 8 ∧ 1 ≤ m ∧ m ≤ 3 ∧ (∀ x ∈ ss, PyData.strOk x = true) ∧ 0 ≤ t ∧ t ≤ 90000 ∧
  ∀ (v : V) (d : PyData) (t' : Int) (H' : Hp), DeckAt H' dk dl t' → t ≤ t' → t' ≤ t + 3 → Keep dk dl H H' → DK (Nw H H') v d → NeedOk m ss d → Q v H'
theorem strs_dp {H : Hp} {K : PySem.W.Frag} : ∀ cs : List Str, DpAll K H (cs.map V.str) (cs.map PyData.str)
  | [] => .nil
  | c :: cs => .cons (.str c) (strs_dp cs)
theorem strs_lay : ∀ cs : List Str, (∀ x ∈ cs, PyData.strOk x = true) → PyData.canLayAll0 (cs.map PyData.str) = true
  | [], _ => by simp [PyData.canLayAll0]
  | c :: cs, h => by
    simp only [List.map_cons, PyData.canLayAll0, PyData.canLay0, Bool.and_eq_true]
    exact ⟨h c (List.mem_cons_self ..), strs_lay cs fun x hx => h x (List.mem_cons_of_mem _ hx)⟩
theorem strs_dep : ∀ cs : List Str, PyData.depthAll (cs.map PyData.str) = 0
  | [] => by simp [PyData.depthAll]
  | c :: cs => by simp [PyData.depthAll, PyData.depth, strs_dep cs]
theorem strs_shaped {cs : List Str} (h : ∀ x ∈ cs, PyData.strOk x = true) : SeqAt.shaped (.list (cs.map PyData.str)) = true := by
  show (PyData.canLay0 (.list (cs.map PyData.str)) && decide (PyData.depth (.list (cs.map PyData.str)) ≤ 64)) = true
  rw [Bool.and_eq_true]
  refine ⟨by simp only [PyData.canLay0]; exact strs_lay cs h, decide_eq_true ?_⟩
  simp only [PyData.depth, strs_dep]
  decide
section
variable {P : Program} {w : World} {K : PySem.W.Frag} {mg : Str → Option Value} {base : Heap}
theorem scPick : FnScope ["_law_deck_here", "_law_some"] ["_law_deck_here", "_law_some"] (defScope sPick) := ⟨rfl, rfl, rfl, by decide +kernel, rfl, by decide +kernel, by decide +kernel⟩
theorem ok_pick {f fD : Addr} {fd fdD : FuncData} (F : Fun K "_law_pick" "_law_pick" sPick f fd) (GD : FnOk P w K mg base CX0 1 fD fdD ["_law_deck_here", "_law_below"] spDraw) (bD : Binds K fdD ["_law_deck_here", "_law_below"] []) (T : TxtP K mg fD f) :
    FnOk P w K mg base CX0 2 f fd ["_law_deck_here", "_law_some"] spPick := by
  refine F.ok scPick (fun vs H Q E h => ?_) (fun cdv A outer s H vs Q E hr h => ?_)
  · obtain ⟨dk, dl, p, t, xs, rfl, _⟩ := h
    rfl
  · obtain ⟨dk, dl, p, t, xs, rfl, hD, hpl, hp, hne, hx, t0, t1, k⟩ := h
    have hu := hu_of hr
    refine ⟨_, pss_one (ps_ret (pe_ix ix_list (pv 1) (pe_call GD hr rfl T.gD T.kD bD .nil pass0 (pa_cons (pv 0) (pa_cons (pe_callB call_len_seq (by rfl) T.len PySem.boot_len (pa_cons (pv 1) pa_nil)) pa_nil))) (fun _ _ => rfl))), ?_⟩
    have pos : 0 < xs.length := by
      cases xs with
      | nil => exact absurd rfl hne
      | cons _ _ => exact Nat.succ_pos _
    refine ⟨_, rfl, _, rfl, _, rfl, p, _, rfl, .inl (SqL.of hp), ?_⟩
    refine ⟨dk, dl, (xs.length : Int), t, rfl, hD, by omega, by omega, t0, t1, fun r H' r0 r1 D' K' => ?_⟩
    have np : p ≠ dk := by
      obtain ⟨⟨m, h1, _⟩, _⟩ := hD
      exact ne_of hp h1 (by intro z; cases z)
    obtain ⟨y, hy, ha⟩ := K09.pick r0 r1
    exact ⟨p, _, _, _, rfl, rfl, SqL.of (K' _ _ np hpl hp), ha, k y H' hy D' K'⟩
theorem scNeed : FnScope ["_law_deck_here", "_law_singles", "_law_many", "_law_way", "_law_j", "_law_c"] ["_law_deck_here", "_law_singles", "_law_many"] (defScope sNeed) := ⟨rfl, rfl, rfl, by decide +kernel, rfl, by decide +kernel, by decide +kernel⟩
theorem ok_need {f fD fP : Addr} {fd fdD fdP : FuncData} (F : Fun K "_law_need" "_law_need" sNeed f fd) (GD : FnOk P w K mg base CX0 1 fD fdD ["_law_deck_here", "_law_below"] spDraw) (bD : Binds K fdD ["_law_deck_here", "_law_below"] [])
    (GP : FnOk P w K mg base CX0 2 fP fdP ["_law_deck_here", "_law_some"] spPick) (bP : Binds K fdP ["_law_deck_here", "_law_some"] []) (T : TxtP K mg fD fP) : FnOk P w K mg base CX0 3 f fd ["_law_deck_here", "_law_singles", "_law_many"] spNeed := by
  refine F.ok scNeed (fun vs H Q E h => ?_) (fun cdv A outer s H vs Q E hr h => ?_)
  · obtain ⟨dk, dl, p, t, m, ss, rfl, _⟩ := h
    rfl
  · obtain ⟨dk, dl, p, t, m, ss, rfl, hD, hpl, hp, hss, m1, m3, sok, t0, t1, k⟩ := h
    have hu := hu_of hr
    have hr1 : Room 1 _ := hr.mono (by decide)
    have np : p ≠ dk := by
      obtain ⟨⟨m, h1, _⟩, _⟩ := hD
      exact ne_of hp h1 (by intro z; cases z)
    refine ⟨_, pss_cons (ps_par (i := 3) (j := 4) rfl scNeed.nd rfl rfl (by decide) rfl rfl (pa_cons (pe_call GD hr1 rfl T.gD T.kD bD .nil pass0 (pa_cons (pv 0) (pa_cons pe_int pa_nil))) (pa_cons (pe_call GD hr1 rfl T.gD T.kD bD .nil pass0 (pa_cons (pv 0) (pa_cons (pv 2) pa_nil))) pa_nil)) (by rfl))
      (pss_cons (ps_if (PW.pt (pw_or (pt_cmpR op_eq (pv 3) pe_int (nomark _)) (pw_or1 (pt_cmpR (op_eqD hr.units) (pv 1) (pe_lst pa_nil) (nomark _))))) (pss_one (ps_ret (pe_tup (pa_cons pe_str (pa_cons (pv 4) pa_nil))))) pss_nil)
      (pss_cons (ps_set (i := 5) scNeed.nd rfl (.inl rfl) (pe_call GP hr rfl T.gP T.kP bP .nil pass0 (pa_cons (pv 0) (pa_cons (pv 1) pa_nil))))
      (pss_one (ps_ret (pe_ifExp (pt_cmpR op_eq (pv 3) pe_int (nomark _)) (pe_tup (pa_cons pe_str (pa_cons (pv 5) (pa_cons (pv 4) pa_nil)))) (pe_tup (pa_cons pe_str (pa_cons (pv 4) (pa_cons (pv 5) pa_nil)))))))) ), ?_⟩
    refine ⟨_, rfl, dk, dl, 3, t, rfl, hD, by decide, by decide, t0, by omega, fun way H1 w0 w1 D1 K1 => ⟨_, rfl, _, rfl, dk, dl, m, t + 1, rfl, D1, m1, by omega, by omega, by omega, fun j H2 j0 j1 D2 K2 => ⟨_, _, rfl, ?_⟩⟩⟩
    have K02 := K1.trans K2
    have hp2 := K02 _ _ np hpl hp
    -- the answer «part»
    have part : ∀ H3 q, DeckAt H3 dk dl (t + 1 + 1) → Keep dk dl H H3 → H3 q = none → Q (.ref q) (upd H3 q (.tup [.str (PySem.Str.ofString "part"), .int j])) := fun H3 q D3 K3 hq =>
      k (.ref q) _ (t + 1 + 1) _ (D3.new hq) (by omega) (by omega) (K3.new hq) (.tup (Nw.at (hD.dom D3 K3 q hq) upd_same) (.cons (.str _) (.cons (.int _) .nil))) (.inl ⟨j, j0, j1, rfl⟩)
    refine ⟨_, rfl, rfl, _, rfl, ite2 (fun hw => ?_) (fun hw => ?_)⟩
    · refine ite2 (fun _ => ?_) (fun z => absurd rfl z)
      exact ⟨_, rfl, (by show 2 ≤ sizeLine; rw [sizeLine_eq]; decide), fun q hq => part H2 q D2 K02 hq⟩
    · refine ⟨_, rfl, (by show 0 ≤ sizeLine; exact Nat.zero_le _), fun e he => ?_⟩
      have kE : Keep dk dl H2 (upd H2 e (.lst [])) := Keep.refl.new he
      have hpE := kE _ _ np hpl hp2
      refine ⟨_, _, .lst (SqL.of hpE) (strs_dp ss), .lst (SqL.of upd_same) .nil, strs_shaped sok, rfl, _, rfl, ?_⟩
      cases ss with
      | nil =>
        refine ite2 (fun _ => ?_) (fun z => absurd rfl z)
        exact ⟨_, rfl, (by show 2 ≤ sizeLine; rw [sizeLine_eq]; decide), fun q hq => part _ q (D2.new he) (K02.trans kE) hq⟩
      | cons c0 cr =>
        refine ite2 (fun z => absurd z (by simp [PyData.eqv, PyData.eqvAll])) (fun _ => ?_)
        refine ⟨_, rfl, _, rfl, dk, dl, p, t + 1 + 1, _, rfl, D2.new he, hpl, hpE, by simp, by rw [List.length_map]; omega, by omega, by omega, fun y H4 hy D4 K4 => ?_⟩
        obtain ⟨c, hc, rfl⟩ := List.mem_map.mp hy
        have K04 := (K02.trans kE).trans K4
        refine ⟨_, rfl, rfl, _, rfl, ite2 (fun _ => ?_) (fun _ => ?_)⟩
        · refine ⟨_, rfl, _, rfl, (by show 3 ≤ sizeLine; rw [sizeLine_eq]; decide), fun q hq => ?_⟩
          exact k (.ref q) _ (t + 1 + 1 + 1) _ (D4.new hq) (by omega) (by omega) (K04.new hq) (.tup (Nw.at (hD.dom D4 K04 q hq) upd_same) (.cons (.str _) (.cons (.str _) (.cons (.int _) .nil)))) (.inr (.inl ⟨c, j, hc, j0, j1, rfl⟩))
        · refine ⟨_, rfl, _, rfl, (by show 3 ≤ sizeLine; rw [sizeLine_eq]; decide), fun q hq => ?_⟩
          exact k (.ref q) _ (t + 1 + 1 + 1) _ (D4.new hq) (by omega) (by omega) (K04.new hq) (.tup (Nw.at (hD.dom D4 K04 q hq) upd_same) (.cons (.str _) (.cons (.int _) (.cons (.str _) .nil)))) (.inr (.inr ⟨c, j, hc, j0, j1, rfl⟩))
end
end K09

set_option Elab.async false
set_option linter.all false
set_option maxRecDepth 100000
set_option maxHeartbeats 4000000
/-! The kinds and openings of a drawn book. -/
namespace K09
open PySem PySem.Spec PyProof.Rows L2 Mine
abbrev sKit : Stmt := top 51
/-- a list at p that grows, all else but the deck standing -/
structure LI (dk dl p : Addr) (H0 H' : Hp) (vs : List V) (ds : List PyData) : Prop where
  at_ : H' p = some (.lst vs)
  ok : DKs (Nw H0 H') vs ds
  keep : ∀ b x, b ≠ dk → b ≠ dl → b ≠ p → H0 b = some x → H' b = some x
theorem LI.step {dk dl p : Addr} {H0 H' H'' : Hp} {vs : List V} {ds : List PyData} {t : Int} (I : LI dk dl p H0 H' vs ds) (D : DeckAt H0 dk dl t) (h1 : p ≠ dk) (h2 : p ≠ dl) (k : Keep dk dl H' H'') : LI dk dl p H0 H'' vs ds :=
  ⟨k _ _ h1 h2 I.at_, DKs.keeps (Nw.mono (fun _ z => z) (k.news D)) _ _ I.ok, fun b x a1 a2 a3 e => k b x a1 a2 (I.keep b x a1 a2 a3 e)⟩
theorem LI.add {dk dl p : Addr} {H0 H' : Hp} {vs : List V} {ds : List PyData} {v : V} {d : PyData} (I : LI dk dl p H0 H' vs ds) (hp : H0 p ≠ none) (h : DK (Nw H0 H') v d) : LI dk dl p H0 (upd H' p (.lst (vs ++ [v]))) (vs ++ [v]) (ds ++ [d]) := by
  have k : ∀ b o, H0 b = none → H' b = some o → upd H' p (.lst (vs ++ [v])) b = some o := fun b o n e => (upd_ne (fun z => hp (by rw [← z]; exact n))).trans e
  exact ⟨upd_same, (DKs.keeps (Nw.mono (fun _ z => z) k) _ _ I.ok).snoc' (DK.keeps (Nw.mono (fun _ z => z) k) _ _ h), fun b x a1 a2 a3 e => (upd_ne a3).trans (I.keep b x a1 a2 a3 e)⟩
/-- what is new beside H0 is new -/
theorem LI.dom {dk dl p : Addr} {H0 H' : Hp} {vs : List V} {ds : List PyData} {t t' : Int} (I : LI dk dl p H0 H' vs ds) (D : DeckAt H0 dk dl t) (D' : DeckAt H' dk dl t') : ∀ b, H' b = none → H0 b = none := fun b e => by
  cases z : H0 b with
  | none => rfl
  | some o =>
    by_cases e1 : b = dk
    · obtain ⟨⟨m, h1, _⟩, _⟩ := D'
      rw [e1, h1] at e
      cases e
    · by_cases e2 : b = dl
      · obtain ⟨_, ⟨cs, h2, _⟩⟩ := D'
        rw [e2, h2] at e
        cases e
      · by_cases e3 : b = p
        · rw [e3, I.at_] at e
          cases e
        · rw [I.keep b o e1 e2 e3 z] at e
          cases e
def W8 : List Str := [PySem.Str.ofString "box", PySem.Str.ofString "half", PySem.Str.ofString "lock", PySem.Str.ofString "mark", PySem.Str.ofString "pair", PySem.Str.ofString "q", PySem.Str.ofString "seal", PySem.Str.ofString "zzzzzzzz"]
def W6 : List Str := [PySem.Str.ofString "ahead", PySem.Str.ofString "first", PySem.Str.ofString "look", PySem.Str.ofString "open", PySem.Str.ofString "second", PySem.Str.ofString "undo"]
def kD (p : Str × Int) : PyData := .tuple [.str p.1, .int p.2]
structure Op where
  w : Str
  k : Str
  g : Int
  n : List PyData
def oD (o : Op) : PyData := .tuple [.str o.w, .str o.k, .int o.g, .tuple o.n]
def singles (ks : List (Str × Int)) : List Str := (ks.filter fun p => decide (p.2 = 1)).map (·.1)
structure OpOk (ks : List (Str × Int)) (o : Op) : Prop where
  ex : ∃ m : Int, (o.k, m) ∈ ks ∧ 0 ≤ o.g ∧ o.g < m ∧ o.n.length ≤ 2 ∧ ∀ d ∈ o.n, NeedOk m (singles ks) d
structure KitOk (ks : List (Str × Int)) (os : List Op) : Prop where
  ne : ks ≠ []
  sub : (ks.map (·.1)).Sublist W8
  num : ∀ p ∈ ks, 1 ≤ p.2 ∧ p.2 ≤ 3
  osub : (os.map (·.w)).Sublist W6
  ops : ∀ o ∈ os, OpOk ks o
def spKit : Sp := fun vs H Q _ => ∃ (dk dl : Addr) (t : Int), vs = [.ref dk] ∧ DeckAt H dk dl t ∧ 0 ≤ t ∧ t ≤ 50000 ∧
  ∀ (r p1 p2 : Addr) (vs ws : List V) (ks : List (Str × Int)) (os : List Op) (t' : Int) (H' : Hp), DeckAt H' dk dl t' → t ≤ t' → t' ≤ t + 100 → Keep dk dl H H' → H r = none → H p1 = none → H p2 = none →
    H' r = some (.tup [.ref p1, .ref p2]) → Fz H' p1 vs → H' p2 = some (.tup ws) → DKs (Nw H H') vs (ks.map kD) → DKs (Nw H H') ws (os.map oD) → KitOk ks os → Q (.ref r) H'
structure TxtK (K : PySem.W.Frag) (mg : Str → Option Value) (fD fP fN : Addr) : Prop extends TxtP K mg fD fP where
  range : mg "range" = none
  tuple : mg "tuple" = none
  gN : mg "_law_need" = some (.ref fN)
  kN : PySem.W.keepIn K (.ref fN) = true
theorem w8_ok : ∀ x ∈ W8, PyData.strOk x = true := by decide +kernel
theorem sub_w8 {ks : List (Str × Int)} (h : (ks.map (·.1)).Sublist W8) : ∀ p ∈ ks, PyData.strOk p.1 = true := fun p hp => w8_ok _ (h.subset (List.mem_map_of_mem hp))

theorem DeckAt.set {dk dl p : Addr} {H : Hp} {t : Int} {o : HO} (h : DeckAt H dk dl t) (h1 : p ≠ dk) (h2 : p ≠ dl) : DeckAt (upd H p o) dk dl t := by
  obtain ⟨⟨m, x1, m0, m1⟩, ⟨cs, x2, l⟩⟩ := h
  exact ⟨⟨m, (upd_ne h1.symm).trans x1, m0, m1⟩, ⟨cs, (upd_ne h2.symm).trans x2, l⟩⟩
theorem LI.keepOf {dk dl p : Addr} {H H0 H' : Hp} {vs : List V} {ds : List PyData} (I : LI dk dl p H0 H' vs ds) (k : Keep dk dl H H0) (hp : H p = none) : Keep dk dl H H' := fun b o h1 h2 e =>
  I.keep b o h1 h2 (fun z => by rw [z, hp] at e; cases e) (k b o h1 h2 e)
theorem dks_at {H : Hp} : ∀ {vs : List V} {ds : List PyData} {i : Nat} {v : V}, DKs H vs ds → vs[i]? = some v → ∃ d, ds[i]? = some d ∧ DK H v d
  | _, _, 0, v, .cons h _, e => ⟨_, rfl, by cases e; exact h⟩
  | _, _, i + 1, v, .cons _ r, e => by
    obtain ⟨d, e1, h1⟩ := dks_at r (i := i) e
    exact ⟨d, e1, h1⟩
theorem dks_mem {H : Hp} {vs : List V} {ds : List PyData} {v : V} (r : DKs H vs ds) (h : v ∈ vs) : ∃ d, d ∈ ds ∧ DK H v d := by
  obtain ⟨i, e⟩ := List.getElem?_of_mem h
  obtain ⟨d, e1, h1⟩ := dks_at r e
  exact ⟨d, List.mem_of_getElem? e1, h1⟩
theorem nw_some {H H' : Hp} : ∀ b o, Nw H H' b = some o → H' b = some o := fun _ _ e => (Nw.of e).2
theorem kd_of {H : Hp} {v : V} {p : Str × Int} (h : DK H v (kD p)) : ∃ a, v = .ref a ∧ H a = some (.tup [.str p.1, .int p.2]) := by
  cases h with
  | tup e r =>
    cases r with
    | cons h1 r =>
      cases r with
      | cons h2 r =>
        cases r
        cases h1
        cases h2
        exact ⟨_, rfl, e⟩
theorem kds_keeps {H H' : Hp} (k : ∀ a x, H a = some (.tup x) → H' a = some (.tup x)) : ∀ (ks : List (Str × Int)) (vs : List V), DKs H vs (ks.map kD) → DKs H' vs (ks.map kD)
  | [], _, h => by cases h; exact .nil
  | c :: cs, _, h => by
    cases h with
    | cons h1 h2 =>
      obtain ⟨a, rfl, e⟩ := kd_of h1
      exact .cons (.tup (k _ _ e) (.cons (.str _) (.cons (.int _) .nil))) (kds_keeps k cs _ h2)
theorem singles_yes {ks : List (Str × Int)} {i : Nat} {p : Str × Int} (h : ks[i]? = some p) (e : p.2 = 1) : singles (ks.take (i + 1)) = singles (ks.take i) ++ [p.1] := by
  unfold singles
  rw [List.take_add_one, h, List.filter_append, List.map_append]
  simp [e]
theorem singles_no {ks : List (Str × Int)} {i : Nat} {p : Str × Int} (h : ks[i]? = some p) (e : p.2 ≠ 1) : singles (ks.take (i + 1)) = singles (ks.take i) := by
  unfold singles
  rw [List.take_add_one, h, List.filter_append, List.map_append]
  simp [e]
theorem singles_len (ks : List (Str × Int)) : (singles ks).length ≤ ks.length := by
  unfold singles
  rw [List.length_map]
  exact List.length_filter_le _ _
theorem singles_mem {ks : List (Str × Int)} {c : Str} (h : c ∈ singles ks) : (c, (1 : Int)) ∈ ks := by
  unfold singles at h
  obtain ⟨p, hp, rfl⟩ := List.mem_map.mp h
  obtain ⟨h1, h2⟩ := List.mem_filter.mp hp
  have := of_decide_eq_true h2
  rw [← this]
  exact h1
theorem kds_lay : ∀ ks : List (Str × Int), (∀ p ∈ ks, PyData.strOk p.1 = true) → PyData.canLayAll0 (ks.map kD) = true
  | [], _ => by simp [PyData.canLayAll0]
  | c :: cs, h => by
    simp only [List.map_cons, PyData.canLayAll0, PyData.canLay0, Bool.and_eq_true, kD]
    exact ⟨⟨h c (List.mem_cons_self ..), trivial, trivial⟩, kds_lay cs fun x hx => h x (List.mem_cons_of_mem _ hx)⟩
theorem kds_dep : ∀ ks : List (Str × Int), PyData.depthAll (ks.map kD) ≤ 1
  | [] => by simp [PyData.depthAll]
  | c :: cs => by
    have := kds_dep cs
    simp only [List.map_cons, PyData.depthAll, PyData.depth, kD]
    omega
theorem kds_shaped {ks : List (Str × Int)} (h : ∀ p ∈ ks, PyData.strOk p.1 = true) : SeqAt.shaped (.list (ks.map kD)) = true := by
  show (PyData.canLay0 (.list (ks.map kD)) && decide (PyData.depth (.list (ks.map kD)) ≤ 64)) = true
  rw [Bool.and_eq_true]
  refine ⟨by simp only [PyData.canLay0]; exact kds_lay ks h, decide_eq_true ?_⟩
  have := kds_dep ks
  simp only [PyData.depth]
  omega
/-- the kinds of the book as they stand once drawn -/
structure Kinds (dk dl : Addr) (H H2 : Hp) (pk : Addr) (vs : List V) (ks : List (Str × Int)) : Prop where
  at_ : H2 pk = some (.lst vs)
  off : H pk = none
  ok : DKs (Nw H H2) vs (ks.map kD)
  ne : ks ≠ []
  sub : (ks.map (·.1)).Sublist W8
  num : ∀ p ∈ ks, 1 ≤ p.2 ∧ p.2 ≤ 3
theorem half_sub : ([((PySem.Str.ofString "half" : Str), (1 : Int))].map (·.1)).Sublist W8 := by
  unfold W8
  exact .cons _ (.cons₂ _ (.cons _ (.cons _ (.cons _ (.cons _ (.cons _ (.cons _ .slnil)))))))
theorem fallback {K : PySem.W.Frag} {dk dl p : Addr} {H H' : Hp} {t tz : Int} {vs : List V} {ks : List (Str × Int)} {σ : L2.St} {G : V → Hp → Prop} (hD : DeckAt H dk dl tz) (hp : H p = none) (e : H' p = some (.lst vs)) (ok : DKs (Nw H H') vs (ks.map kD)) (D' : DeckAt H' dk dl t) (k' : Keep dk dl H H')
    (sub : (ks.map (·.1)).Sublist W8) (num : ∀ p ∈ ks, 1 ≤ p.2 ∧ p.2 ≤ 3) (hσ : σ[1]? = some (some (V.ref p)))
    (h : ∀ pk vs ks H2, Kinds dk dl H H2 pk vs ks → DeckAt H2 dk dl t → Keep dk dl H' H2 → G (.ref pk) H2) :
    tIf (tTest (tOp (rNeD K) (tVar 1) (tLst tNil))) (tVar 1) (tLst (tCons (tTup (tCons (tC (.str (PySem.Str.ofString "half"))) (tCons (tC (.int 1)) tNil))) tNil)) σ H' G := by
  refine ⟨_, hσ, (by show 0 ≤ sizeLine; exact Nat.zero_le _), fun q hq => ?_⟩
  have e1 : upd H' q (.lst []) p = some (.lst vs) := (upd_ne (ne_of_none e hq)).trans e
  have kq : Keep dk dl H' (upd H' q (.lst [])) := Keep.refl.new hq
  have ok1 : DKs (Nw H (upd H' q (.lst []))) vs (ks.map kD) := DKs.keeps (Nw.mono (fun _ z => z) (kq.news hD)) _ _ ok
  refine ⟨_, _, .lst (SqL.of e1) (dks_dp K _ _ (DKs.keeps nw_some _ _ ok1) (kds_lay ks (sub_w8 sub))), .lst (SqL.of upd_same) .nil, kds_shaped (sub_w8 sub), rfl, _, rfl, ?_⟩
  cases ks with
  | nil =>
    refine ite2 (fun z => absurd z (by simp [PyData.eqv, PyData.eqvAll])) (fun _ => ?_)
    refine ⟨(by show 2 ≤ sizeLine; rw [sizeLine_eq]; decide), fun a ha => ⟨(by show 1 ≤ sizeLine; rw [sizeLine_eq]; decide), fun b hb => ?_⟩⟩
    have Da : DeckAt (upd (upd H' q (.lst [])) a (.tup [.str (PySem.Str.ofString "half"), .int 1])) dk dl t := (D'.new hq).new ha
    have Ka := (kq.new ha : Keep dk dl H' (upd (upd H' q (.lst [])) a (.tup [.str (PySem.Str.ofString "half"), .int 1])))
    have na : H a = none := hD.dom (D'.new hq) (k'.trans kq) a ha
    have nb : H b = none := hD.dom Da (k'.trans Ka) b hb
    refine h b [.ref a] [((PySem.Str.ofString "half" : Str), (1 : Int))] _ ⟨upd_same, nb, ?_, List.cons_ne_nil _ _, half_sub, fun p hp => by simp only [List.mem_cons, List.not_mem_nil, or_false] at hp; subst hp; decide⟩ (Da.new hb) (Ka.new hb)
    exact .cons (.tup (Nw.at na ((upd_ne (ne_of_none upd_same hb)).trans upd_same)) (.cons (.str _) (.cons (.int _) .nil))) .nil
  | cons c0 cr =>
    refine ite2 (fun _ => ?_) (fun z => absurd rfl z)
    exact ⟨_, hσ, h p vs (c0 :: cr) _ ⟨e1, hp, ok1, List.cons_ne_nil _ _, sub, num⟩ (D'.new hq) kq⟩
end K09

set_option Elab.async false
set_option linter.all false
set_option maxRecDepth 100000
set_option maxHeartbeats 4000000
/-! the kinds and openings of a drawn book -/
namespace K09
open PySem PySem.Spec PyProof.Rows L2 Mine
section
variable {P : Program} {w : World} {K : PySem.W.Frag} {mg : Str → Option Value} {base : Heap}
theorem scKit : FnScope ["_law_deck_here", "_law_makes", "_law_taking", "_law_word", "_law_many", "_law_singles", "_law_word_of", "_law_needs", "_law_go"] ["_law_deck_here"] (defScope sKit) := ⟨rfl, rfl, rfl, by decide +kernel, rfl, by decide +kernel, by decide +kernel⟩
theorem ok_kit {f fD fP fN : Addr} {fd fdD fdP fdN : FuncData} (F : Fun K "_law_kit" "_law_kit" sKit f fd) (GD : FnOk P w K mg base CX0 1 fD fdD ["_law_deck_here", "_law_below"] spDraw) (bD : Binds K fdD ["_law_deck_here", "_law_below"] [])
    (GP : FnOk P w K mg base CX0 2 fP fdP ["_law_deck_here", "_law_some"] spPick) (bP : Binds K fdP ["_law_deck_here", "_law_some"] []) (GN : FnOk P w K mg base CX0 3 fN fdN ["_law_deck_here", "_law_singles", "_law_many"] spNeed) (bN : Binds K fdN ["_law_deck_here", "_law_singles", "_law_many"] [])
    (T : TxtK K mg fD fP fN) : FnOk P w K mg base CX0 4 f fd ["_law_deck_here"] spKit := by
  refine F.ok scKit (fun vs H Q E h => ?_) (fun cdv A outer s H vs Q E hr h => ?_)
  · obtain ⟨dk, dl, t, rfl, _⟩ := h
    rfl
  · obtain ⟨dk, dl, t, rfl, hD, t0, t1, k⟩ := h
    have hu := hu_of hr
    have hr1 : Room 1 _ := hr.mono (by decide)
    have hr2 : Room 2 _ := hr.mono (by decide)
    refine ⟨_, pss_cons (ps_par (i := 1) (j := 2) rfl scKit.nd rfl rfl (by decide) rfl rfl (pa_cons (pe_lst pa_nil) (pa_cons (pe_lst pa_nil) pa_nil)) (by rfl))
      (pss_cons (ps_for PassesOwn.never rfl (pi_list (pe_lst (pa_cons pe_str (pa_cons pe_str (pa_cons pe_str (pa_cons pe_str (pa_cons pe_str (pa_cons pe_str (pa_cons pe_str (pa_cons pe_str pa_nil)))))))))) (pg_name (i := 3) scKit.nd rfl (.inl rfl))
        (pss_one (ps_if (pt_cmpR op_eq (pe_call GD hr1 rfl T.gD T.kD bD .nil pass0 (pa_cons (pv 0) (pa_cons pe_int pa_nil))) pe_int (nomark _))
          (pss_one (ps_expr (pe_bm PySem.F.plainAttrs_list PySem.F.slot_list_append PySem.F.type_list_append mt_append (pv 1) (pa_cons (pe_tup (pa_cons (pv 3) (pa_cons (pe_op op_add pe_int (pe_call GD hr1 rfl T.gD T.kD bD .nil pass0 (pa_cons (pv 0) (pa_cons pe_int pa_nil)))) pa_nil))) pa_nil)))) pss_nil)))
      (pss_cons (ps_set (i := 1) scKit.nd rfl (.inl rfl) (pe_ifExp (pt_cmpR (op_neD hr.units) (pv 1) (pe_lst pa_nil) (nomark _)) (pv 1) (pe_lst (pa_cons (pe_tup (pa_cons pe_str (pa_cons pe_int pa_nil))) pa_nil))))
      (pss_cons (ps_set (i := 5) scKit.nd rfl (.inr rfl) (pe_lc (own := [("_law_word", 3), ("_law_many", 4)]) (g := gTup K 2 (gCons (gName 3) (gCons (gName 4) gNil))) rfl scKit.nd (pi_list (pv 1))
        (blkOk_by (own := [("_law_word", 3), ("_law_many", 4)]) (N := ["_law_deck_here", "_law_makes", "_law_taking", "_law_word", "_law_many", "_law_singles", "_law_word_of", "_law_needs", "_law_go"]) (sc := defScope sKit) (by decide +kernel))
        (fun _ _ _ _ _ => pg_tup rfl (pgs_cons (pg_name (i := 3) scKit.nd rfl (Or.inl rfl)) (pgs_cons (pg_name (i := 4) scKit.nd rfl (Or.inl rfl)) pgs_nil))) (fun _ _ _ _ _ => pts_one (pt_cmpR op_eq (pv 4) pe_int (nomark _))) (fun _ _ _ _ _ => pv 3)))
      (pss_cons (ps_for PassesOwn.never rfl (pi_list (pe_lst (pa_cons pe_str (pa_cons pe_str (pa_cons pe_str (pa_cons pe_str (pa_cons pe_str (pa_cons pe_str pa_nil)))))))) (pg_name (i := 3) scKit.nd rfl (.inl rfl))
        (pss_one (ps_if (pt_cmpR op_eq (pe_call GD hr1 rfl T.gD T.kD bD .nil pass0 (pa_cons (pv 0) (pa_cons pe_int pa_nil))) pe_int (nomark _))
          (pss_cons (ps_asg (pe_call GP hr2 rfl T.gP T.kP bP .nil pass0 (pa_cons (pv 0) (pa_cons (pv 1) pa_nil))) (pg_tup rfl (pgs_cons (pg_name (i := 6) scKit.nd rfl (.inl rfl)) (pgs_cons (pg_name (i := 4) scKit.nd rfl (.inr rfl)) pgs_nil))))
          (pss_cons (ps_set (i := 7) scKit.nd rfl (.inl rfl) (pe_callTy call_tuple_of (by rfl) T.tuple (by decide +kernel) (pa_cons (pe_lc (own := [("_law_go", 8)]) (g := gName 8) (tt := tYes) rfl scKit.nd (pi_range1 rfl T.range (pa_cons (pe_call GD hr1 rfl T.gD T.kD bD .nil pass0 (pa_cons (pv 0) (pa_cons pe_int pa_nil))) pa_nil))
            (blkOk_by (own := [("_law_go", 8)]) (N := ["_law_deck_here", "_law_makes", "_law_taking", "_law_word", "_law_many", "_law_singles", "_law_word_of", "_law_needs", "_law_go"]) (sc := defScope sKit) (by decide +kernel))
            (fun _ _ _ _ _ => pg_name (i := 8) scKit.nd rfl (Or.inl rfl)) (fun _ _ _ _ _ => pts_nil) (fun _ _ _ _ _ => pe_call GN hr rfl T.gN T.kN bN .nil pass0 (pa_cons (pv 0) (pa_cons (pv 5) (pa_cons (pv 4) pa_nil))))) pa_nil)))
          (pss_one (ps_expr (pe_bm PySem.F.plainAttrs_list PySem.F.slot_list_append PySem.F.type_list_append mt_append (pv 2) (pa_cons (pe_tup (pa_cons (pv 3) (pa_cons (pv 6) (pa_cons (pe_call GD hr1 rfl T.gD T.kD bD .nil pass0 (pa_cons (pv 0) (pa_cons (pv 4) pa_nil))) (pa_cons (pv 7) pa_nil))))) pa_nil)))))) pss_nil)))
      (pss_one (ps_ret (pe_tup (pa_cons (pe_callTy call_tupleF (by rfl) T.tuple (by decide +kernel) (pa_cons (pv 1) pa_nil)) (pa_cons (pe_callTy call_tuple_of (by rfl) T.tuple (by decide +kernel) (pa_cons (pv 2) pa_nil)) pa_nil))))))))), ?_⟩
    refine ⟨Nat.zero_le _, fun pm em => ⟨Nat.zero_le _, fun pt et => ⟨_, _, rfl, ?_⟩⟩⟩
    refine ⟨(by show 8 ≤ sizeLine; rw [sizeLine_eq]; decide), fun pl el => ⟨pl, rfl, ⟨_, SqL.of upd_same⟩, ?_⟩⟩
    have m1 : upd H pm (.lst []) pm = some (.lst []) := upd_same
    have m2 := (upd_ne (o := .lst []) (ne_of_none m1 et)).trans m1
    have m3 := (upd_ne (o := .lst (W8.map V.str)) (ne_of_none m2 el)).trans m2
    have n2 : upd (upd H pm (.lst [])) pt (.lst []) pt = some (.lst []) := upd_same
    have n3 := (upd_ne (o := .lst (W8.map V.str)) (ne_of_none n2 el)).trans n2
    have l3 : upd (upd (upd H pm (.lst [])) pt (.lst [])) pl (.lst (W8.map V.str)) pl = some (.lst (W8.map V.str)) := upd_same
    have hnt : H pt = none := hD.dom (hD.new em) (Keep.refl.new em) pt et
    have hnl : H pl = none := hD.dom ((hD.new em).new et) ((Keep.refl.new em).new et) pl el
    have D0 := ((hD.new em).new et).new (o := .lst (W8.map V.str)) el
    have K0 : Keep dk dl H _ := ((Keep.refl.new em).new et).new (o := .lst (W8.map V.str)) el
    have nmt : pm ≠ pt := ne_of_none m1 et
    have nml : pm ≠ pl := ne_of_none m2 el
    have ntl : pt ≠ pl := ne_of_none n2 el
    show ∃ W : Nat → Nat → L2.St → Hp → Prop, (∃ m, W 0 m _ (upd (upd (upd H pm (.lst [])) pt (.lst [])) pl (.lst (W8.map V.str)))) ∧ _
    generalize upd (upd (upd H pm (.lst [])) pt (.lst [])) pl (.lst (W8.map V.str)) = H0 at m3 n3 l3 D0 K0
    have om := hD.off em
    have ot := hD.off hnt
    have ol := hD.off hnl
    refine for_list (K := K) (a := pl) (xs := W8.map V.str) (fun i σ H' => ∃ (vs : List V) (ks : List (Str × Int)) (t' : Int) (o3 : Option V), σ = [some (.ref dk), some (.ref pm), some (.ref pt), o3, none, none, none, none, none] ∧ LI dk dl pm H0 H' vs (ks.map kD) ∧ (ks.map (·.1)).Sublist (W8.take i) ∧ (∀ p ∈ ks, 1 ≤ p.2 ∧ p.2 ≤ 3) ∧ vs.length ≤ i ∧ DeckAt H' dk dl t' ∧ t ≤ t' ∧ t' ≤ t + 2 * (i : Int))
      ⟨[], [], t, none, rfl, ⟨m3, .nil, fun _ _ _ _ _ e => e⟩, .slnil, fun _ z => (List.not_mem_nil z).elim, Nat.le_refl _, D0, by omega, by omega⟩ (fun i σ H' _ ⟨vs, ks, t', o3, _, I, _⟩ => SqL.of (I.keep _ _ ol.1 ol.2 nml.symm l3)) ?_ ?_
    · rintro i y σ H' hi ⟨vs, ks, t', o3, rfl, I, sub, num, len, D', ta, tb⟩
      rw [List.getElem?_map] at hi
      obtain ⟨wd, hw, rfl⟩ : ∃ wd, W8[i]? = some wd ∧ y = V.str wd := by
        cases e : W8[i]? with
        | none =>
          rw [e] at hi
          cases hi
        | some z =>
          rw [e] at hi
          exact ⟨z, rfl, (Option.some.inj hi).symm⟩
      have hi8 : i < 8 := (List.getElem?_eq_some_iff.mp hw).1
      have tk : W8.take (i + 1) = W8.take i ++ [wd] := by
        rw [List.take_add_one, hw]
        rfl
      refine ⟨_, rfl, dk, dl, 2, t', rfl, D', by decide, by decide, by omega, by omega, fun r H1 r0 r1 D1 K1 => ⟨rfl, _, rfl, ite2 (fun _ => ?_) (fun _ => ?_)⟩⟩
      · have I1 := I.step D0 om.1 om.2 K1
        refine ⟨_, rfl, .inl ⟨rfl, _, SqL.of I1.at_⟩, _, rfl, _, rfl, dk, dl, 3, t' + 1, rfl, D1, by decide, by decide, by omega, by omega, fun q H2 q0 q1 D2 K2 => ⟨_, _, rfl, rfl, (by show 2 ≤ sizeLine; rw [sizeLine_eq]; decide), fun a ha => ?_⟩⟩
        have I2 := I1.step D0 om.1 om.2 (K2.new (o := .tup [.str wd, .int (1 + q)]) ha)
        have na : H0 a = none := (I1.step D0 om.1 om.2 K2).dom D0 D2 a ha
        have I3 := I2.add (v := .ref a) (d := kD (wd, 1 + q)) (by rw [m3]; simp) (.tup (Nw.at na upd_same) (.cons (.str _) (.cons (.int _) .nil)))
        refine ⟨pm, _, _, rfl, rfl, I2.at_, (by rw [sizeLine_eq]; omega), vs ++ [.ref a], ks ++ [(wd, 1 + q)], t' + 1 + 1, _, rfl, ?_, ?_, ?_, by rw [List.length_append]; simp only [List.length_cons, List.length_nil]; omega, (D2.new ha).set om.1 om.2, by omega, by omega⟩
        · rw [List.map_append]
          exact I3
        · rw [List.map_append, tk]
          exact sub.append (.refl _)
        · intro p hp
          rcases List.mem_append.mp hp with hp | hp
          · exact num p hp
          · simp only [List.mem_cons, List.not_mem_nil, or_false] at hp
            subst hp
            show 1 ≤ 1 + q ∧ 1 + q ≤ 3
            omega
      · refine ⟨vs, ks, t' + 1, _, rfl, I.step D0 om.1 om.2 K1, ?_, num, by omega, D1, by omega, by omega⟩
        rw [tk]
        exact sub.trans (List.sublist_append_left _ _)
    · rintro σ H' ⟨vs, ks, t', o3, rfl, I, sub, num, len, D', ta, tb⟩
      have t16 : t' ≤ t + 16 := by
        have : ((W8.map V.str).length : Int) = 8 := rfl
        omega
      have sub8 : (ks.map (·.1)).Sublist W8 := sub.trans (List.take_sublist _ _)
      have dom0 : ∀ b, H0 b = none → H b = none := hD.dom D0 K0
      have ok0 : DKs (Nw H H') vs (ks.map kD) := DKs.keeps (Nw.mono dom0 (fun b o _ e => e)) _ _ I.ok
      have KH : Keep dk dl H H' := I.keepOf K0 em
      have ept : H' pt = some (.lst []) := I.keep _ _ ot.1 ot.2 nmt.symm n3
      refine fallback hD em I.at_ ok0 D' KH sub8 num rfl (fun pk vs ks H2 KK D2 K2 => ?_)
      have ept2 : H2 pt = some (.lst []) := K2 _ _ ot.1 ot.2 ept
      have hlen : vs.length = ks.length := by
        have := KK.ok.len
        rwa [List.length_map] at this
      have len8 : ks.length ≤ 8 := by
        have := KK.sub.length_le
        rw [List.length_map] at this
        exact this
      have hne : vs ≠ [] := fun z => KK.ne (List.length_eq_zero_iff.mp (by rw [← hlen, z]; rfl))
      have opk := hD.off KK.off
      have npk : pk ≠ pt := fun z => by
        have := KK.at_
        rw [z, ept2] at this
        exact hne (by cases this; rfl)
      have KH2 : Keep dk dl H H2 := KH.trans K2
      clear sub num len ok0 sub8 I
      refine ⟨_, rfl, pk, rfl, ⟨_, SqL.of KK.at_⟩, fun ps eS => ?_⟩
      refine lc_list (K := K) (a := pk) (xs := vs) (fun i H3 => H3 = upd H2 ps (.lst ((singles (ks.take i)).map V.str))) rfl (fun i H3 _ e => by rw [e]; exact SqL.of ((upd_ne (ne_of_none KK.at_ eS)).trans KK.at_)) ?_ ?_
      · rintro i y H3 hi rfl
        obtain ⟨d, e1, h1⟩ := dks_at KK.ok hi
        rw [List.getElem?_map] at e1
        obtain ⟨p, hp, rfl⟩ : ∃ p, ks[i]? = some p ∧ d = kD p := by
          cases e : ks[i]? with
          | none =>
            rw [e] at e1
            cases e1
          | some z =>
            rw [e] at e1
            exact ⟨z, rfl, (Option.some.inj e1).symm⟩
        obtain ⟨a, rfl, ha⟩ := kd_of h1
        have ha2 := nw_some _ _ ha
        have hlt : (singles (ks.take i)).length ≤ 8 := by
          have z1 := singles_len (ks.take i)
          have z2 : (ks.take i).length ≤ ks.length := by rw [List.length_take]; omega
          omega
        refine ⟨a, _, rfl, SqT.of ((upd_ne (ne_of_none ha2 eS)).trans ha2), rfl, _, _, rfl, _, _, rfl, rfl, rfl, _, rfl, rfl, _, rfl, ite2 (fun hb => ?_) (fun hb => ?_)⟩
        · have e2 : p.2 = 1 := by
            have := of_decide_eq_true hb
            injection this
          refine ⟨_, rfl, _, upd_same, by rw [List.length_map, sizeLine_eq]; omega, ?_⟩
          rw [upd_upd, singles_yes hp e2, List.map_append]
          rfl
        · have e2 : p.2 ≠ 1 := fun z => hb (by rw [z]; rfl)
          rw [singles_no hp e2]
      · rintro H3 rfl
        rw [List.take_of_length_le (by rw [hlen]; exact Nat.le_refl _)]
        have kS := D2.new (o := .lst ((singles ks).map V.str)) eS
        have KS : Keep dk dl H2 (upd H2 ps (.lst ((singles ks).map V.str))) := Keep.refl.new eS
        have s3 : upd H2 ps (.lst ((singles ks).map V.str)) ps = some (.lst ((singles ks).map V.str)) := upd_same
        have p3 := (upd_ne (o := .lst ((singles ks).map V.str)) (ne_of_none ept2 eS)).trans ept2
        have k3 := (upd_ne (o := .lst ((singles ks).map V.str)) (ne_of_none KK.at_ eS)).trans KK.at_
        have nS : H ps = none := hD.dom D2 KH2 ps eS
        refine ⟨(by show 6 ≤ sizeLine; rw [sizeLine_eq]; decide), fun pu eu => ⟨pu, rfl, ⟨_, SqL.of upd_same⟩, ?_⟩⟩
        have s4 := (upd_ne (o := .lst (W6.map V.str)) (ne_of_none s3 eu)).trans s3
        have p4 := (upd_ne (o := .lst (W6.map V.str)) (ne_of_none p3 eu)).trans p3
        have k4 := (upd_ne (o := .lst (W6.map V.str)) (ne_of_none k3 eu)).trans k3
        have u4 : upd (upd H2 ps (.lst ((singles ks).map V.str))) pu (.lst (W6.map V.str)) pu = some (.lst (W6.map V.str)) := upd_same
        have DB := kS.new (o := .lst (W6.map V.str)) eu
        have KB : Keep dk dl H2 (upd (upd H2 ps (.lst ((singles ks).map V.str))) pu (.lst (W6.map V.str))) := KS.new eu
        have nU : H pu = none := hD.dom kS (KH2.trans KS) pu eu
        have nsu : ps ≠ pu := ne_of_none s3 eu
        have nsp : ps ≠ pt := (ne_of_none ept2 eS).symm
        have nup : pu ≠ pt := (ne_of_none p3 eu).symm
        show ∃ W : Nat → Nat → L2.St → Hp → Prop, (∃ m, W 0 m _ (upd (upd H2 ps (.lst ((singles ks).map V.str))) pu (.lst (W6.map V.str)))) ∧ _
        generalize upd (upd H2 ps (.lst ((singles ks).map V.str))) pu (.lst (W6.map V.str)) = B at s4 p4 k4 u4 DB KB
        have KHB : Keep dk dl H B := KH2.trans KB
        have oS := hD.off nS
        have oU := hD.off nU
        have kB : ∀ a x, H a = none → H2 a = some (.tup x) → B a = some (.tup x) := fun a x z e => KB a _ (hD.off z).1 (hD.off z).2 e
        refine for_list (K := K) (a := pu) (xs := W6.map V.str) (fun i σ H' => ∃ (ws : List V) (os : List Op) (u : Int) (o3 o4 o6 o7 o8 : Option V), σ = [some (.ref dk), some (.ref pk), some (.ref pt), o3, o4, some (.ref ps), o6, o7, o8] ∧ LI dk dl pt B H' ws (os.map oD) ∧ (os.map (·.w)).Sublist (W6.take i) ∧ (∀ o ∈ os, OpOk ks o) ∧ ws.length ≤ i ∧ DeckAt H' dk dl u ∧ t' ≤ u ∧ u ≤ t' + 10 * (i : Int))
          ⟨[], [], t', _, _, _, _, _, rfl, ⟨p4, .nil, fun _ _ _ _ _ e => e⟩, .slnil, fun _ z => (List.not_mem_nil z).elim, Nat.le_refl _, DB, by omega, by omega⟩ (fun i σ H' _ ⟨_, _, _, _, _, _, _, _, _, I, _⟩ => SqL.of (I.keep _ _ oU.1 oU.2 nup u4)) ?_ ?_
        · rintro i y σ H' hi ⟨ws, os, u, o3, o4, o6, o7, o8, rfl, I, sub, oks, len, D', ta, tb⟩
          rw [List.getElem?_map] at hi
          obtain ⟨wd, hw, rfl⟩ : ∃ wd, W6[i]? = some wd ∧ y = V.str wd := by
            cases e : W6[i]? with
            | none =>
              rw [e] at hi
              cases hi
            | some z =>
              rw [e] at hi
              exact ⟨z, rfl, (Option.some.inj hi).symm⟩
          have hi6 : i < 6 := (List.getElem?_eq_some_iff.mp hw).1
          have tk : W6.take (i + 1) = W6.take i ++ [wd] := by
            rw [List.take_add_one, hw]
            rfl
          refine ⟨_, rfl, dk, dl, 2, u, rfl, D', by decide, by decide, by omega, by omega, fun r H1 r0 r1 D1 K1 => ⟨rfl, _, rfl, ite2 (fun _ => ?_) (fun _ => ?_)⟩⟩
          · have I1 := I.step DB ot.1 ot.2 K1
            refine ⟨_, rfl, _, rfl, dk, dl, pk, u + 1, vs, rfl, D1, opk.2, I1.keep _ _ opk.1 opk.2 npk k4, hne, by omega, by omega, by omega, fun y H5 hy D5 K5 => ?_⟩
            have I5 := I1.step DB ot.1 ot.2 K5
            obtain ⟨d, hd, h1⟩ := dks_mem KK.ok hy
            obtain ⟨⟨c, m⟩, hc, rfl⟩ := List.mem_map.mp hd
            obtain ⟨a, rfl, ha⟩ := kd_of h1
            obtain ⟨ha0, ha2⟩ := Nw.of ha
            have haB := kB _ _ ha0 ha2
            have nat : a ≠ pt := fun z => by
              rw [z, p4] at haB
              cases haB
            have ha5 := I5.keep _ _ (hD.off ha0).1 (hD.off ha0).2 nat haB
            have mb := KK.num _ hc
            refine ⟨a, _, rfl, SqT.of ha5, rfl, _, _, rfl, _, _, rfl, rfl, ?_⟩
            refine ⟨_, rfl, dk, dl, 3, u + 1 + 1, rfl, D5, by decide, by decide, by omega, by omega, fun q H6 q0 q1 D6 K6 => ⟨_, rfl, by omega, by omega, fun pn hn => ?_⟩⟩
            have I6 := I5.step DB ot.1 ot.2 K6
            have nB : B pn = none := I6.dom DB D6 pn hn
            have nn : H pn = none := hD.dom DB KHB pn nB
            have on := hD.off nn
            have Db := D6.new (o := .lst []) hn
            have Kb : Keep dk dl H6 (upd H6 pn (.lst [])) := Keep.refl.new hn
            have s6 : H6 ps = _ := I6.keep _ _ oS.1 oS.2 nsp s4
            have nps : ps ≠ pn := ne_of_none s6 hn
            have sb : upd H6 pn (.lst []) ps = _ := (upd_ne nps).trans s6
            refine lc_range (lo := 0) (n := q.toNat) (fun j H7 => ∃ (vn : List V) (ns : List PyData) (x : Int), LI dk dl pn (upd H6 pn (.lst [])) H7 vn ns ∧ (∀ d ∈ ns, NeedOk m (singles ks) d) ∧ vn.length = j ∧ DeckAt H7 dk dl x ∧ u + 3 ≤ x ∧ x ≤ u + 3 + 3 * (j : Int))
              ⟨[], [], u + 1 + 1 + 1, ⟨upd_same, .nil, fun _ _ _ _ _ e => e⟩, fun _ z => (List.not_mem_nil z).elim, rfl, Db, by omega, by omega⟩ ?_ ?_
            · rintro j H7 hj ⟨vn, ns, x, In, nok, nl, D7, xa, xb⟩
              refine ⟨rfl, ?_⟩
              unfold tYes
              dsimp only
              rw [if_pos rfl]
              have z1 := singles_len ks
              refine ⟨_, rfl, _, rfl, _, rfl, dk, dl, ps, x, m, singles ks, rfl, D7, oS.2, In.keep _ _ oS.1 oS.2 nps sb, by omega, mb.1, mb.2, fun c hc => sub_w8 KK.sub _ (singles_mem hc), by omega, by omega, fun v d x' H8 D8 xc xd K8 hv hd => ?_⟩
              have I8 := In.step Db on.1 on.2 K8
              have I9 := I8.add (by rw [upd_same]; simp) (DK.keeps (Nw.mono (In.dom Db D7) (fun b o _ e => e)) _ _ hv)
              refine ⟨vn, I8.at_, by rw [sizeLine_eq]; omega, _, _, x', I9, fun d' hd' => ?_, by rw [List.length_append, nl]; rfl, D8.set on.1 on.2, by omega, by omega⟩
              rcases List.mem_append.mp hd' with h | h
              · exact nok _ h
              · simp only [List.mem_cons, List.not_mem_nil, or_false] at h
                rw [h]
                exact hd
            · rintro H7 ⟨vn, ns, x, In, nok, nl, D7, xa, xb⟩
              refine ⟨pn, vn, rfl, .inl ⟨SqL.of In.at_, fun p7 e7 => ?_⟩⟩
              have K67 : Keep dk dl H6 H7 := In.keepOf Kb hn
              have I7 := I6.step DB ot.1 ot.2 (K67.new (o := .tup vn) e7)
              have D7' := D7.new (o := .tup vn) e7
              have n7 : B p7 = none := (I6.step DB ot.1 ot.2 K67).dom DB D7 p7 e7
              have n7b : upd H6 pn (.lst []) p7 = none := In.dom Db D7 p7 e7
              refine ⟨_, rfl, .inl ⟨rfl, _, SqL.of I7.at_⟩, _, rfl, _, rfl, _, rfl, _, rfl, dk, dl, m, x, rfl, D7', mb.1, by omega, by omega, by omega, fun g H9 g0 g1 D9 K9 => ⟨_, rfl, (by show 4 ≤ sizeLine; rw [sizeLine_eq]; decide), fun p9 e9 => ?_⟩⟩
              have K79 : Keep dk dl (upd H7 p7 (.tup vn)) (upd H9 p9 (.tup [.str wd, .str c, .int g, .ref p7])) := K9.new e9
              have I9 := I7.step DB ot.1 ot.2 K79
              have n9 : B p9 = none := (I7.step DB ot.1 ot.2 K9).dom DB D9 p9 e9
              have o7 := hD.off (hD.dom DB KHB p7 n7)
              have a7 : upd H9 p9 (.tup [.str wd, .str c, .int g, .ref p7]) p7 = some (.tup vn) := K79 _ _ o7.1 o7.2 upd_same
              have kn : DKs (Nw B (upd H9 p9 (.tup [.str wd, .str c, .int g, .ref p7]))) vn ns := DKs.keeps (Nw.mono (fun b z => by
                  by_cases y : b = pn
                  · rw [y]; exact nB
                  · exact I6.dom DB D6 b ((upd_ne y).symm.trans z)) (fun b o z e => K79 b o (Db.off z).1 (Db.off z).2 ((upd_ne (ne_of_none e e7)).trans e))) _ _ In.ok
              have nel : DK (Nw B (upd H9 p9 (.tup [.str wd, .str c, .int g, .ref p7]))) (.ref p9) (oD ⟨wd, c, g, ns⟩) := .tup (Nw.at n9 upd_same) (.cons (.str _) (.cons (.str _) (.cons (.int _) (.cons (.tup (Nw.at n7 a7) kn) .nil))))
              have IA := I9.add (by rw [p4]; simp) nel
              have nsl : ns.length ≤ 2 := by
                have := In.ok.len
                omega
              refine ⟨pt, _, _, rfl, rfl, I9.at_, (by rw [sizeLine_eq]; omega), ws ++ [.ref p9], os ++ [⟨wd, c, g, ns⟩], x + 1, _, _, _, _, _, rfl, ?_, ?_, ?_, by rw [List.length_append]; simp only [List.length_cons, List.length_nil]; omega, (D9.new e9).set ot.1 ot.2, by omega, by omega⟩
              · rw [List.map_append]
                exact IA
              · rw [List.map_append, tk]
                exact sub.append (.refl _)
              · intro o ho
                rcases List.mem_append.mp ho with h | h
                · exact oks _ h
                · simp only [List.mem_cons, List.not_mem_nil, or_false] at h
                  subst h
                  exact ⟨m, hc, g0, g1, nsl, nok⟩
          · refine ⟨ws, os, u + 1, _, _, _, _, _, rfl, I.step DB ot.1 ot.2 K1, ?_, oks, by omega, D1, by omega, by omega⟩
            rw [tk]
            exact sub.trans (List.sublist_append_left _ _)
        · rintro σ H' ⟨ws, os, u, o3, o4, o6, o7, o8, rfl, I, sub, oks, len, D', ta, tb⟩
          have o6 : ((W6.map V.str).length : Int) = 6 := rfl
          have KF : Keep dk dl H H' := I.keepOf KHB hnt
          refine ⟨_, rfl, pk, vs, rfl, SqL.of (I.keep _ _ opk.1 opk.2 npk k4), fun p1 oz e1 oz0 => ⟨_, rfl, pt, ws, rfl, .inl ⟨SqL.of ((upd_ne (ne_of_none I.at_ e1)).trans I.at_), fun p2 e2 => ⟨(by show 2 ≤ sizeLine; rw [sizeLine_eq]; decide), fun p3 e3 => ?_⟩⟩⟩⟩
          have D1 := D'.new (o := .frz oz (.tup vs)) e1
          have D2 := D1.new (o := .tup ws) e2
          have D3 := D2.new (o := .tup [.ref p1, .ref p2]) e3
          have K1 := KF.new (o := .frz oz (.tup vs)) e1
          have K2 := K1.new (o := .tup ws) e2
          have K3 := K2.new (o := .tup [.ref p1, .ref p2]) e3
          have n1 := hD.dom D' KF p1 e1
          have n2 := hD.dom D1 K1 p2 e2
          have n3 := hD.dom D2 K2 p3 e3
          have a1 : upd (upd (upd H' p1 (.frz oz (.tup vs))) p2 (.tup ws)) p3 (.tup [.ref p1, .ref p2]) p1 = some (.frz oz (.tup vs)) := by
            have x1 : upd H' p1 (.frz oz (.tup vs)) p1 = some (.frz oz (.tup vs)) := upd_same
            have x2 := (upd_ne (o := .tup ws) (ne_of_none x1 e2)).trans x1
            exact (upd_ne (ne_of_none x2 e3)).trans x2
          have a2 : upd (upd (upd H' p1 (.frz oz (.tup vs))) p2 (.tup ws)) p3 (.tup [.ref p1, .ref p2]) p2 = some (.tup ws) := by
            have x2 : upd (upd H' p1 (.frz oz (.tup vs))) p2 (.tup ws) p2 = some (.tup ws) := upd_same
            exact (upd_ne (ne_of_none x2 e3)).trans x2
          have up : ∀ b o, H' b = some o → upd (upd (upd H' p1 (.frz oz (.tup vs))) p2 (.tup ws)) p3 (.tup [.ref p1, .ref p2]) b = some o := fun b o e => by
            have x1 := (upd_ne (o := .frz oz (.tup vs)) (ne_of_none e e1)).trans e
            have x2 := (upd_ne (o := .tup ws) (ne_of_none x1 e2)).trans x1
            exact (upd_ne (ne_of_none x2 e3)).trans x2
          refine k p3 p1 p2 vs ws ks os u _ D3 (by omega) (by omega) K3 n3 n1 n2 upd_same ⟨oz, a1, oz0⟩ a2 ?_ ?_ ⟨KK.ne, KK.sub, KK.num, ?_, oks⟩
          · refine kds_keeps (fun a x e => ?_) _ _ KK.ok
            obtain ⟨z1, z2⟩ := Nw.of e
            have z3 := kB _ _ z1 z2
            have nat : a ≠ pt := fun z => by
              rw [z, p4] at z3
              cases z3
            exact Nw.at z1 (up _ _ (I.keep _ _ (hD.off z1).1 (hD.off z1).2 nat z3))
          · exact DKs.keeps (Nw.mono (hD.dom DB KHB) fun b o _ e => up b o e) _ _ I.ok
          · exact sub.trans (List.take_sublist _ _)
end
end K09

set_option Elab.async false
set_option linter.all false
set_option maxRecDepth 100000
set_option maxHeartbeats 4000000
/-! Words, integers, ascending words. -/
namespace K09
open PySem PySem.Spec PyProof.Rows L2 Mine
def WW : List Str := W8 ++ W6 ++ [PySem.Str.ofString "sign", PySem.Str.ofString "shown", PySem.Str.ofString "signed", PySem.Str.ofString "unseal"]
def ABC : Str := PySem.Str.ofString "abcdefghijklmnopqrstuvwxyz"
theorem ww_len : ∀ x ∈ WW, 1 ≤ x.length ∧ x.length ≤ 8 := by decide +kernel
theorem ww_abc : ∀ x ∈ WW, ∀ c ∈ x.cps.toList, c ∈ ABC.cps.toList := by decide +kernel
def spWord : Sp := fun vs H Q _ => ∃ x, x ∈ WW ∧ vs = [.str x] ∧ ∀ H', Same H H' → Q (.bl true) H'
structure TxtW (mg : Str → Option Value) : Prop where
  isi : mg "isinstance" = none
  str : mg "str" = none
  int : mg "int" = none
  bool : mg "bool" = none
  tuple : mg "tuple" = none
  len : mg "len" = none
  all : mg "all" = none
  zip : mg "zip" = none
  dict : mg "dict" = none
  longest : ∃ u, mg "LONGEST" = some u ∧ RelV (.int 8) u
  letters : ∃ u, mg "LETTERS" = some u ∧ RelV (.str ABC) u
theorem rep_all (n : Nat) : (List.replicate n true).all id = true := by
  induction n with
  | zero => rfl
  | succ n ih => rw [List.replicate_succ, List.all_cons, ih]; rfl
theorem rep_snoc (n : Nat) : (List.replicate (n + 1) true).map V.bl = (List.replicate n true).map V.bl ++ [V.bl true] := by
  rw [List.replicate_succ', List.map_append]
  rfl
section
variable {P : Program} {w : World} {K : PySem.W.Frag} {mg : Str → Option Value} {base : Heap}
def spInt : Sp := fun vs H Q _ => ∃ v lo hi : Int, vs = [.int v, .int lo, .int hi] ∧ lo ≤ v ∧ v ≤ hi ∧ Q (.bl true) H
theorem cut1 (xs : List V) : cutV xs (some 1) none = xs.drop 1 := by
  unfold cutV HT.sIx
  cases xs with
  | nil => rfl
  | cons x r => simp
def Asc (ws : List Str) : Prop := ∀ (i : Nat) (a b : Str), ws[i]? = some a → ws[i + 1]? = some b → a.cps.toList < b.cps.toList
def spAsc : Sp := fun vs H Q _ => ∃ (p : Addr) (ws : List Str), vs = [.ref p] ∧ H p = some (.lst (ws.map V.str)) ∧ ws.length ≤ 1000 ∧ Asc ws ∧ ∀ H', Same H H' → Q (.bl true) H'
end
end K09

set_option Elab.async false
set_option linter.all false
set_option maxRecDepth 100000
set_option maxHeartbeats 4000000
/-! The parts of a book are looked at: kinds. -/
namespace K09
open PySem PySem.Spec PyProof.Rows L2 Mine
theorem sqT_same {K : PySem.W.Frag} {H H' : Hp} {a : Addr} {xs : List V} (k : Same H H') (h : SqT K H a xs) : SqT K H' a xs := by
  rcases h with (h | ⟨o, h⟩) | h
  · exact .inl (.inl (k _ _ h))
  · exact .inl (.inr ⟨o, k _ _ h⟩)
  · exact .inr h
theorem tupN_same {K : PySem.W.Frag} {H H' : Hp} {a : Addr} {xs : List V} (k : Same H H') (h : TupN K H a xs) : TupN K H' a xs := by
  rcases h with ⟨o, e, d⟩ | ⟨h, r⟩
  · exact .inl ⟨o, k _ _ e, d⟩
  · exact .inr ⟨sqT_same k h, r⟩
theorem sqT_ty {K : PySem.W.Frag} {H : Hp} {a : Addr} {xs : List V} (h : SqT K H a xs) : TyX K H (.ref a) (.type "tuple") := by
  rcases h with (h | ⟨o, h⟩) | ⟨o, its, n, e, c, _⟩
  · exact .base (.tup h)
  · exact .fTuple h
  · exact .kTuple e c
/-- kinds with their numbers, wherever they stand -/
structure KindsAt (K : PySem.W.Frag) (H : Hp) (kk : Addr) (ps : List Addr) (ks : List (Str × Int)) : Prop where
  at_ : TupN K H kk (ps.map V.ref)
  each : Paired (fun a p => SqT K H a [.str p.1, .int p.2]) ps ks
theorem paired_at {α β : Type} {R : α → β → Prop} : ∀ {as : List α} {bs : List β} {i : Nat} {a : α}, Paired R as bs → as[i]? = some a → ∃ b, bs[i]? = some b ∧ R a b
  | _, _, 0, a, .cons h _, e => ⟨_, rfl, by cases e; exact h⟩
  | _, _, i + 1, a, .cons _ r, e => by
    obtain ⟨b, e1, h1⟩ := paired_at r (i := i) e
    exact ⟨b, e1, h1⟩
theorem paired_mono {α β : Type} {R S : α → β → Prop} (f : ∀ a b, R a b → S a b) : ∀ {as : List α} {bs : List β}, Paired R as bs → Paired S as bs
  | _, _, .nil => .nil
  | _, _, .cons h r => .cons (f _ _ h) (paired_mono f r)
theorem KindsAt.same {K : PySem.W.Frag} {H H' : Hp} {kk : Addr} {ps : List Addr} {ks : List (Str × Int)} (h : KindsAt K H kk ps ks) (k : Same H H') : KindsAt K H' kk ps ks :=
  ⟨tupN_same k h.at_, paired_mono (fun _ _ => sqT_same k) h.each⟩
theorem KindsAt.len {K : PySem.W.Frag} {H : Hp} {kk : Addr} {ps : List Addr} {ks : List (Str × Int)} (h : KindsAt K H kk ps ks) : ps.length = ks.length := h.each.length
/-- what is asked of kinds -/
structure KsOk (ks : List (Str × Int)) : Prop where
  ne : ks ≠ []
  ww : ∀ p ∈ ks, p.1 ∈ WW
  num : ∀ p ∈ ks, 1 ≤ p.2 ∧ p.2 ≤ 3
  asc : Asc (ks.map (·.1))
  nd : (ks.map (·.1)).Nodup
  len : ks.length ≤ 20
/-- the numbers of parts as a dict tells them -/
def Cnt (H : Hp) (cd : Addr) (ks : List (Str × Int)) : Prop := ∃ kvs : List (Key × V), H cd = some (.dK kvs) ∧ (∀ p ∈ ks, valV kvs (.inr p.1) = some (.int p.2)) ∧ ∀ c, c ∉ ks.map (·.1) → valV kvs (.inr c) = none
theorem Cnt.same {H H' : Hp} {cd : Addr} {ks : List (Str × Int)} (h : Cnt H cd ks) (k : Same H H') : Cnt H' cd ks := let ⟨kvs, e, r⟩ := h; ⟨kvs, k _ _ e, r⟩
abbrev kvOf (p : Str × Int) : Key × V := (.inr p.1, .int p.2)
theorem merge_no {c : Str} : ∀ (ks : List (Str × Int)) (acc : List (Key × V)), c ∉ ks.map (·.1) → valV (mergeK acc (ks.map kvOf)) (.inr c) = valV acc (.inr c)
  | [], _, _ => rfl
  | p :: r, acc, h => by
    rw [List.map_cons, List.mem_cons, not_or] at h
    show valV (mergeK (putK acc (Sum.inr p.1) (.int p.2)) (r.map kvOf)) (.inr c) = _
    rw [merge_no r _ h.2, valV_put, if_neg]
    intro z
    injection z with z
    exact h.1 z
theorem merge_yes {p : Str × Int} : ∀ (ks : List (Str × Int)) (acc : List (Key × V)), (ks.map (·.1)).Nodup → p ∈ ks → valV (mergeK acc (ks.map kvOf)) (.inr p.1) = some (.int p.2)
  | [], _, _, h => (List.not_mem_nil h).elim
  | q :: r, acc, nd, h => by
    rw [List.map_cons, List.nodup_cons] at nd
    show valV (mergeK (putK acc (Sum.inr q.1) (.int q.2)) (r.map kvOf)) (.inr p.1) = _
    rcases List.mem_cons.mp h with rfl | h
    · rw [merge_no r _ nd.1, valV_put, if_pos rfl]
    · exact merge_yes r _ nd.2 h
theorem cnt_new {H : Hp} {cd : Addr} {ks : List (Str × Int)} (nd : (ks.map (·.1)).Nodup) : Cnt (upd H cd (.dK (mergeK [] (ks.map kvOf)))) cd ks :=
  ⟨_, upd_same, fun _ hp => merge_yes ks [] nd hp, fun _ hc => by rw [merge_no ks [] hc]; rfl⟩
theorem paired_kv {K : PySem.W.Frag} {H : Hp} : ∀ {ps : List Addr} {ks : List (Str × Int)}, Paired (fun a p => SqT K H a [.str p.1, .int p.2]) ps ks → Paired (fun p kv => SqT K H p [kV kv.1, kv.2]) ps (ks.map kvOf)
  | _, _, .nil => .nil
  | _, _, .cons h r => .cons h (paired_kv r)
/-- what the defs of the book need of the text -/
structure TxtB (K : PySem.W.Frag) (mg : Str → Option Value) (fW fI fA : Addr) : Prop extends TxtW mg where
  gW : mg "is_word" = some (.ref fW)
  kW : PySem.W.keepIn K (.ref fW) = true
  gI : mg "_is_integer" = some (.ref fI)
  kI : PySem.W.keepIn K (.ref fI) = true
  gA : mg "ascends" = some (.ref fA)
  kA : PySem.W.keepIn K (.ref fA) = true
  mostP : ∃ u, mg "MOST_PARTS" = some u ∧ RelV (.int 3) u
  mostN : ∃ u, mg "MOST_NEEDS" = some u ∧ RelV (.int 2) u
section
variable {P : Program} {w : World} {K : PySem.W.Frag} {mg : Str → Option Value} {base : Heap}
/-- the three defs below -/
structure Lows (P : Program) (w : World) (K : PySem.W.Frag) (mg : Str → Option Value) (base : Heap) (fW fI fA : Addr) (dW dI dA : FuncData) : Prop where
  W : FnOk P w K mg base CX0 1 fW dW ["thing"] spWord
  bW : Binds K dW ["thing"] []
  I : FnOk P w K mg base CX0 1 fI dI ["value", "low", "high"] spInt
  bI : Binds K dI ["value", "low", "high"] []
  A : FnOk P w K mg base CX0 1 fA dA ["texts"] spAsc
  bA : Binds K dA ["texts"] []
def spKindQ (K : PySem.W.Frag) : Sp := fun vs H Q _ => ∃ (a : Addr) (c : Str) (m : Int), vs = [.ref a] ∧ SqT K H a [.str c, .int m] ∧ c ∈ WW ∧ 1 ≤ m ∧ m ≤ 3 ∧ ∀ H', Same H H' → Q (.bl true) H'
def spKinds (K : PySem.W.Frag) : Sp := fun vs H Q _ => ∃ (kk : Addr) (ps : List Addr) (ks : List (Str × Int)), vs = [.ref kk] ∧ KindsAt K H kk ps ks ∧ KsOk ks ∧ ∀ H', Same H H' → Q (.bl true) H'
end
end K09

set_option Elab.async false
set_option linter.all false
set_option maxRecDepth 100000
set_option maxHeartbeats 4000000
/-! The parts of a book are looked at: needs and openings. -/
namespace K09
open PySem PySem.Spec PyProof.Rows L2 Mine
inductive Nd where
  | part (j : Int)
  | around (c : Str) (j : Int)
  | inside (j : Int) (c : Str)
def ndV : Nd → List V
  | .part j => [.str (PySem.Str.ofString "part"), .int j]
  | .around c j => [.str (PySem.Str.ofString "around"), .str c, .int j]
  | .inside j c => [.str (PySem.Str.ofString "inside"), .int j, .str c]
def ndD : Nd → PyData
  | .part j => .tuple [.str (PySem.Str.ofString "part"), .int j]
  | .around c j => .tuple [.str (PySem.Str.ofString "around"), .str c, .int j]
  | .inside j c => .tuple [.str (PySem.Str.ofString "inside"), .int j, .str c]
def NdOk (m : Int) (ks : List (Str × Int)) : Nd → Prop
  | .part j => 0 ≤ j ∧ j < m
  | .around c j => (c, (1 : Int)) ∈ ks ∧ 0 ≤ j ∧ j < m
  | .inside j c => (c, (1 : Int)) ∈ ks ∧ 0 ≤ j ∧ j < m
structure Opn where
  w : Str
  k : Str
  g : Int
  nn : List Nd
def OpnAt (K : PySem.W.Frag) (H : Hp) (a : Addr) (o : Opn) : Prop := ∃ (b : Addr) (as : List Addr), SqT K H a [.str o.w, .str o.k, .int o.g, .ref b] ∧ SqT K H b (as.map V.ref) ∧ Paired (fun x n => SqT K H x (ndV n)) as o.nn
theorem OpnAt.same {K : PySem.W.Frag} {H H' : Hp} {a : Addr} {o : Opn} (k : Same H H') (h : OpnAt K H a o) : OpnAt K H' a o :=
  let ⟨b, as, h1, h2, h3⟩ := h
  ⟨b, as, sqT_same k h1, sqT_same k h2, paired_mono (fun _ _ => sqT_same k) h3⟩
structure OpnsAt (K : PySem.W.Frag) (H : Hp) (oo : Addr) (as : List Addr) (os : List Opn) : Prop where
  at_ : SqT K H oo (as.map V.ref)
  each : Paired (OpnAt K H) as os
theorem OpnsAt.same {K : PySem.W.Frag} {H H' : Hp} {oo : Addr} {as : List Addr} {os : List Opn} (h : OpnsAt K H oo as os) (k : Same H H') : OpnsAt K H' oo as os :=
  ⟨sqT_same k h.at_, paired_mono (fun _ _ => OpnAt.same k) h.each⟩
structure OpnOk (ks : List (Str × Int)) (o : Opn) : Prop where
  ww : o.w ∈ WW
  out : o.w ∉ ks.map (·.1)
  ex : ∃ m : Int, (o.k, m) ∈ ks ∧ 0 ≤ o.g ∧ o.g < m ∧ o.nn.length ≤ 2 ∧ ∀ n ∈ o.nn, NdOk m ks n
structure OsOk (ks : List (Str × Int)) (os : List Opn) : Prop where
  each : ∀ o ∈ os, OpnOk ks o
  asc : Asc (os.map (·.w))
  len : os.length ≤ 20
section
variable {P : Program} {w : World} {K : PySem.W.Frag} {mg : Str → Option Value} {base : Heap}
def spOne : Sp := fun vs H Q _ => ∃ (cd : Addr) (c : Str) (ks : List (Str × Int)), vs = [.ref cd, .str c] ∧ Cnt H cd ks ∧ (c, (1 : Int)) ∈ ks ∧ c ∈ WW ∧ ∀ H', Same H H' → Q (.bl true) H'
def spNeedQ (K : PySem.W.Frag) : Sp := fun vs H Q _ => ∃ (cd a : Addr) (m : Int) (n : Nd) (ks : List (Str × Int)), vs = [.ref cd, .int (m - 1), .ref a] ∧ Cnt H cd ks ∧ (∀ p ∈ ks, p.1 ∈ WW) ∧ SqT K H a (ndV n) ∧ NdOk m ks n ∧ ∀ H', Same H H' → Q (.bl true) H'
def spOpenQ (K : PySem.W.Frag) : Sp := fun vs H Q _ => ∃ (cd a : Addr) (o : Opn) (ks : List (Str × Int)), vs = [.ref cd, .ref a] ∧ Cnt H cd ks ∧ (∀ p ∈ ks, p.1 ∈ WW) ∧ OpnAt K H a o ∧ OpnOk ks o ∧ ∀ H', Same H H' → Q (.bl true) H'
def spOpens (K : PySem.W.Frag) : Sp := fun vs H Q _ => ∃ (cd oo : Addr) (as : List Addr) (os : List Opn) (ks : List (Str × Int)), vs = [.ref cd, .ref oo] ∧ Cnt H cd ks ∧ (∀ p ∈ ks, p.1 ∈ WW) ∧ OpnsAt K H oo as os ∧ OsOk ks os ∧ ∀ H', Same H H' → Q (.bl true) H'
end
end K09

set_option Elab.async false
set_option linter.all false
set_option maxRecDepth 100000
set_option maxHeartbeats 4000000
/-! Book(kinds, openings). -/
namespace K09
open PySem PySem.Spec PyProof.Rows L2 Mine
abbrev fsB (kk oo : Addr) : List (Str × V) := [(PySem.Str.ofString "kinds", .ref kk), (PySem.Str.ofString "openings", .ref oo)]
def spInit (K : PySem.W.Frag) (C : Addr) : Sp := fun vs H Q _ => ∃ (x dx kk oo : Addr) (ps as : List Addr) (ks : List (Str × Int)) (os : List Opn), vs = [.ref x, .ref kk, .ref oo] ∧ H x = some (.ins C dx []) ∧ KindsAt K H kk ps ks ∧ KsOk ks ∧ OpnsAt K H oo as os ∧ OsOk ks os ∧
  ∀ H', (∀ b o, b ≠ x → H b = some o → H' b = some o) → H' x = some (.ins C dx (fsB kk oo)) → Q .non H'
structure TxtI (K : PySem.W.Frag) (mg : Str → Option Value) (C fKs fOs : Addr) : Prop where
  cl : Cls K C
  nK : NoAttr K C "kinds"
  nO : NoAttr K C "openings"
  gKs : mg "_are_kinds" = some (.ref fKs)
  kKs : PySem.W.keepIn K (.ref fKs) = true
  gOs : mg "_are_openings" = some (.ref fOs)
  kOs : PySem.W.keepIn K (.ref fOs) = true
theorem ps_dead {X : Cx} {st : Stmt} : PS X st (fun _ _ _ => False) := ⟨fun _ _ _ _ _ _ h => h.elim⟩
section
variable {P : Program} {w : World} {K : PySem.W.Frag} {mg : Str → Option Value} {base : Heap}
end
end K09

set_option Elab.async false
set_option linter.all false
set_option maxRecDepth 100000
set_option maxHeartbeats 4000000
/-! Things as they stand, and that they stay; all pieces of some things. -/
namespace K09
open PySem PySem.Spec PyProof.Rows L2 Mine TL
/-- every tuple stays -/
def KT (K : PySem.W.Frag) (H H' : Hp) : Prop := ∀ a xs, SqT K H a xs → SqT K H' a xs
theorem KT.refl {K : PySem.W.Frag} {H : Hp} : KT K H H := fun _ _ h => h
theorem KT.tr {K : PySem.W.Frag} {H H1 H2 : Hp} (a : KT K H H1) (b : KT K H1 H2) : KT K H H2 := fun p xs h => b p xs (a p xs h)
theorem kt_same {K : PySem.W.Frag} {H H' : Hp} (s : Same H H') : KT K H H' := fun a xs h => by
  rcases h with (e | ⟨o, e⟩) | h
  · exact .inl (.inl (s _ _ e))
  · exact .inl (.inr ⟨o, s _ _ e⟩)
  · exact .inr h
theorem kt_new {K : PySem.W.Frag} {H : Hp} {p : Addr} {o : HO} (h : H p = none) : KT K H (upd H p o) := kt_same fun b u e => (upd_ne (ne_of_none e h)).trans e
theorem kt_lst {K : PySem.W.Frag} {H : Hp} {p : Addr} {xs ys : List V} (h : H p = some (.lst xs)) : KT K H (upd H p (.lst ys)) := fun a zs e => by
  rcases e with (e | ⟨o, e⟩) | e
  · exact .inl (.inl ((upd_ne (ne_of e h (by intro z; cases z))).trans e))
  · exact .inl (.inr ⟨o, (upd_ne (ne_of e h (by intro z; cases z))).trans e⟩)
  · exact .inr e
mutual
theorem th_kt {K : PySem.W.Frag} {H H' : Hp} (k : KT K H H') : ∀ (d : PyData) (v : V), thing d = true → Dp K H v d → Dp K H' v d
  | .str x, _, _, h => by cases h; exact .str x
  | .tuple (.str c :: d :: ds), _, t, h => by
    have t' : thing d = true ∧ thingAll ds = true := by simpa [thing] using t
    cases h with
    | tup e r =>
      cases r with
      | cons h1 r =>
        cases h1
        cases r with
        | cons h2 r => exact .tup (k _ _ e) (.cons (.str _) (.cons (th_kt k d _ t'.1 h2) (ths_kt k ds _ t'.2 r)))
  | .none, _, t, _ => by simp [thing] at t
  | .bool _, _, t, _ => by simp [thing] at t
  | .int _, _, t, _ => by simp [thing] at t
  | .list _, _, t, _ => by simp [thing] at t
  | .dict _, _, t, _ => by simp [thing] at t
  | .tuple [], _, t, _ => by simp [thing] at t
  | .tuple [d], _, t, _ => by cases d <;> simp [thing] at t
  | .tuple (.none :: _ :: _), _, t, _ => by simp [thing] at t
  | .tuple (.bool _ :: _ :: _), _, t, _ => by simp [thing] at t
  | .tuple (.int _ :: _ :: _), _, t, _ => by simp [thing] at t
  | .tuple (.list _ :: _ :: _), _, t, _ => by simp [thing] at t
  | .tuple (.tuple _ :: _ :: _), _, t, _ => by simp [thing] at t
  | .tuple (.dict _ :: _ :: _), _, t, _ => by simp [thing] at t
theorem ths_kt {K : PySem.W.Frag} {H H' : Hp} (k : KT K H H') : ∀ (ds : List PyData) (vs : List V), thingAll ds = true → DpAll K H vs ds → DpAll K H' vs ds
  | [], _, _, h => by cases h; exact .nil
  | d :: ds, _, t, h => by
    have t' : thing d = true ∧ thingAll ds = true := by simpa [thingAll] using t
    cases h with
    | cons h1 h2 => exact .cons (th_kt k d _ t'.1 h1) (ths_kt k ds _ t'.2 h2)
end
theorem dps_len {K : PySem.W.Frag} {H : Hp} : ∀ {vs : List V} {ds : List PyData}, DpAll K H vs ds → vs.length = ds.length
  | _, _, .nil => rfl
  | _, _, .cons _ r => by rw [List.length_cons, List.length_cons, dps_len r]
theorem dps_app {K : PySem.W.Frag} {H : Hp} : ∀ {vs ws : List V} {ds es : List PyData}, DpAll K H vs ds → DpAll K H ws es → DpAll K H (vs ++ ws) (ds ++ es)
  | _, _, _, _, .nil, h => h
  | _, _, _, _, .cons a r, h => .cons a (dps_app r h)
theorem dps_at {K : PySem.W.Frag} {H : Hp} : ∀ {vs : List V} {ds : List PyData} {i : Nat} {d : PyData}, DpAll K H vs ds → ds[i]? = some d → ∃ v, vs[i]? = some v ∧ Dp K H v d
  | _, _, 0, d, .cons h _, e => ⟨_, rfl, by cases e; exact h⟩
  | _, _, i + 1, d, .cons _ r, e => by
    obtain ⟨v, e1, h1⟩ := dps_at r (i := i) e
    exact ⟨v, e1, h1⟩
/-- a thing that stands, by its two shapes -/
theorem th_cases {K : PySem.W.Frag} {H : Hp} {v : V} {d : PyData} (t : thing d = true) (h : Dp K H v d) :
    (∃ c, d = .str c ∧ v = .str c) ∨ ∃ (a : Addr) (c : Str) (ws : List V) (ps : List PyData), d = .tuple (.str c :: ps) ∧ v = .ref a ∧ SqT K H a (.str c :: ws) ∧ DpAll K H ws ps ∧ ps ≠ [] ∧ ∀ p ∈ ps, thing p = true := by
  rcases thing_cases t with ⟨c, rfl⟩ | ⟨c, ps, rfl, ne, e⟩
  · cases h
    exact .inl ⟨c, rfl, rfl⟩
  · cases h with
    | tup e1 r =>
      cases r with
      | cons h1 r =>
        cases h1
        exact .inr ⟨_, c, _, ps, rfl, rfl, e1, r, ne, e⟩
theorem sqT_ty' {K : PySem.W.Frag} {H : Hp} {a : Addr} {xs : List V} (h : SqT K H a xs) : TyX K H (.ref a) (.type "tuple") := by
  rcases h with (h | ⟨o, h⟩) | ⟨o, its, n, e, c, _⟩
  · exact .base (.tup h)
  · exact .fTuple h
  · exact .kTuple e c
/-- the number in a slot -/
def slotN (σ : L2.St) (i : Nat) : Nat := match σ[i]? with
  | some (some (V.int n)) => n.toNat
  | _ => 0
structure TxtPc (mg : Str → Option Value) : Prop where
  list : mg "list" = none
  len : mg "len" = none
  isi : mg "isinstance" = none
  tuple : mg "tuple" = none
def spPieces (K : PySem.W.Frag) : Sp := fun vs H Q _ => ∃ (a : Addr) (ws : List V) (ts : List PyData), vs = [.ref a] ∧ (SqL K H a ws ∨ SqT K H a ws) ∧ DpAll K H ws ts ∧ (∀ t ∈ ts, thing t = true) ∧ (ts.flatMap lot).length ≤ 10000 ∧
  ∀ (p : Addr) (P : List PyData) (us : List V) (H' : Hp), Same H H' → H p = none → H' p = some (.lst us) → DpAll K H' us P → Bfs ts P → Q (.ref p) H'
theorem cut1' (c : V) (ws : List V) : cutV (c :: ws) (some 1) none = ws := by
  unfold cutV
  have e : HT.sIx (c :: ws).length 0 (some 1) = 1 := by
    simp [HT.sIx]
  have e2 : HT.sIx (c :: ws).length (c :: ws).length none = ws.length + 1 := by
    simp [HT.sIx]
  rw [e, e2]
  simp
section
variable {P : Program} {w : World} {K : PySem.W.Frag} {mg : Str → Option Value} {base : Heap}
end
end K09

set_option Elab.async false
set_option linter.all false
set_option maxRecDepth 100000
set_option maxHeartbeats 4000000
/-! The texts of all pieces. -/
namespace K09
open PySem PySem.Spec PyProof.Rows L2 Mine TL
theorem joinL_len {S : List Nat} : ∀ {ps : List (List Nat)}, ps ≠ [] → (joinL S ps).length + S.length = (ps.map List.length).sum + ps.length * S.length
  | [], h => absurd rfl h
  | [p], _ => by simp [joinL]
  | p :: q :: r, _ => by
    have ih := joinL_len (S := S) (ps := q :: r) (List.cons_ne_nil _ _)
    show (p ++ (S ++ joinL S (q :: r))).length + S.length = _
    simp only [List.length_append, List.map_cons, List.sum_cons, List.length_cons] at ih ⊢
    rw [Nat.succ_mul]
    omega
theorem join_len {y : Str} {ps : List Str} (h : ps ≠ []) : (Str.join y ps).length + y.length = (ps.map (·.length)).sum + ps.length * y.length := by
  have e := joinL_len (S := tl y) (ps := ps.map tl) (by simpa using h)
  rw [← tl_join] at e
  have e1 : ∀ z : Str, (tl z).length = z.length := fun z => by simp [tl, Str.length]
  rw [e1, e1, List.map_map, List.length_map] at e
  have e2 : (List.length ∘ tl) = fun z : Str => z.length := funext fun z => e1 z
  rw [e2] at e
  exact e
theorem at0 {α : Type} {x : α} {xs : List α} : atI (x :: xs) 0 = some x := atI_nat (j := 0) (xs := x :: xs) rfl
theorem set_mid {α : Type} {us R : List α} {i : Nat} {v y : α} (h : us[i]? = some v) : (us.take (i + 1) ++ R).set i y = us.take i ++ y :: R := by
  have lt : i < us.length := (List.getElem?_eq_some_iff.mp h).1
  rw [List.take_add_one, h]
  have e : (us.take i).length = i := by rw [List.length_take]; omega
  show (us.take i ++ [v] ++ R).set i y = _
  rw [List.append_assoc, List.set_append_right _ _ (by omega), e, Nat.sub_self]
  rfl
structure TxtTx (mg : Str → Option Value) : Prop extends TxtPc mg where
  range : mg "range" = none
  reversed : mg "reversed" = none
/-- what a worklist of things promises of sizes -/
structure Fits (ts P : List PyData) : Prop where
  bfs : Bfs ts P
  things : ∀ p ∈ P, thing p = true
  many : P.length ≤ 10000
  long : ∀ p ∈ P, (txt p).length ≤ 1000000
def spTexts (K : PySem.W.Frag) : Sp := fun vs H Q _ => ∃ (a : Addr) (us : List V) (ts P : List PyData), vs = [.ref a] ∧ H a = some (.lst us) ∧ DpAll K H us P ∧ Fits ts P ∧
  ∀ (q : Addr) (H' : Hp), Same H H' → H q = none → H' q = some (.lst ((P.map txt).map V.str)) → Q (.ref q) H'
/-- where the parts of the pieces from place m on begin -/
def endAt (ts P : List PyData) (m : Nat) : Nat := ts.length + ((P.take m).flatMap kids).length
def half (us : List V) (P : List PyData) (m : Nat) : List V := us.take m ++ ((P.drop m).map txt).map V.str
section
variable {P : Program} {w : World} {K : PySem.W.Frag} {mg : Str → Option Value} {base : Heap}
end
end K09

set_option Elab.async false
set_option linter.all false
set_option maxRecDepth 100000
set_option maxHeartbeats 4000000
/-! Things in the order of their texts. -/
namespace K09
open PySem PySem.Spec PyProof.Rows L2 Mine TL
theorem yes_if {σ : L2.St} {H : Hp} {A B : Hp → Prop} (h : A H) : tYes σ H (fun b H3 => if b = true then A H3 else B H3) := by
  unfold tYes
  show (if true = true then A H else B H)
  rw [if_pos rfl]
  exact h
/-- the things of P, each once, by their texts -/
structure AscOf (ds P : List PyData) : Prop where
  asc : (ds.map txt).Pairwise LtS
  mem : ∀ d, d ∈ ds ↔ d ∈ P
theorem ascOf_eq {ds es P Q : List PyData} (a : AscOf ds P) (b : AscOf es Q) (w : ∀ d ∈ P, thW d = true) (h : ∀ d, d ∈ P ↔ d ∈ Q) : ds = es := by
  have e : ds.map txt = es.map txt := asc_eq a.asc b.asc fun x => by
    rw [List.mem_map, List.mem_map]
    exact ⟨fun ⟨d, hd, e⟩ => ⟨d, (b.mem d).mpr ((h d).mp ((a.mem d).mp hd)), e⟩, fun ⟨d, hd, e⟩ => ⟨d, (a.mem d).mpr ((h d).mpr ((b.mem d).mp hd)), e⟩⟩
  have inj : ∀ {xs ys : List PyData}, (∀ d ∈ xs, thW d = true) → (∀ d ∈ ys, thW d = true) → xs.map txt = ys.map txt → xs = ys := fun {xs} => by
    induction xs with
    | nil =>
      intro ys _ _ e
      cases ys with
      | nil => rfl
      | cons y ys => cases e
    | cons x xs ih =>
      intro ys hx hy e
      cases ys with
      | nil => cases e
      | cons y ys =>
        rw [List.map_cons, List.map_cons] at e
        injection e with e1 e2
        rw [txt_inj (hx x (List.mem_cons_self ..)) (hy y (List.mem_cons_self ..)) e1, ih (fun d hd => hx d (List.mem_cons_of_mem _ hd)) (fun d hd => hy d (List.mem_cons_of_mem _ hd)) e2]
  exact inj (fun d hd => w d ((a.mem d).mp hd)) (fun d hd => w d ((h d).mpr ((b.mem d).mp hd))) e
def keyS : Key → Str
  | .inr x => x
  | .inl _ => Str.empty
structure TxtAs (mg : Str → Option Value) : Prop where
  dict : mg "dict" = none
  zip : mg "zip" = none
  tuple : mg "tuple" = none
  sorted : mg "sorted" = none
def spAscd (K : PySem.W.Frag) : Sp := fun vs H Q _ => ∃ (a b : Addr) (us : List V) (P : List PyData), vs = [.ref a, .ref b] ∧ SqL K H a us ∧ DpAll K H us P ∧ SqL K H b ((P.map txt).map V.str) ∧ (∀ p ∈ P, thW p = true) ∧ P.length ≤ 10000 ∧
  ∀ (q : Addr) (ws : List V) (ds : List PyData) (H' : Hp), Same H H' → H q = none → H' q = some (.tup ws) → DpAll K H' ws ds → AscOf ds P → Q (.ref q) H'
abbrev nAscd : List Str := ["things", "texts", "by_text", "text"]
theorem mem_zip_dp {K : PySem.W.Frag} {H : Hp} : ∀ {us : List V} {P : List PyData}, DpAll K H us P → ∀ p ∈ (P.map fun d => (Sum.inr (txt d) : Key)).zip us, ∃ d ∈ P, p.1 = Sum.inr (txt d) ∧ Dp K H p.2 d
  | _, _, .nil, p, hp => by simp at hp
  | _, _, .cons (v := v) (d := d) h r, p, hp => by
    rw [List.map_cons, List.zip_cons_cons] at hp
    rcases List.mem_cons.mp hp with rfl | hp
    · exact ⟨d, List.mem_cons_self .., rfl, h⟩
    · obtain ⟨d', hd', e⟩ := mem_zip_dp r p hp
      exact ⟨d', List.mem_cons_of_mem _ hd', e⟩
section
variable {P : Program} {w : World} {K : PySem.W.Frag} {mg : Str → Option Value} {base : Heap}
end
end K09

set_option Elab.async false
set_option linter.all false
set_option maxRecDepth 100000
set_option maxHeartbeats 4000000
/-! Words and names, of any text or other value. -/
namespace K09
open PySem PySem.Spec PyProof.Rows L2 Mine TL
def ABCR : Str := PySem.Str.ofString "abcdefghijklmnopqrstuvwxyz"
def CAP : Str := PySem.Str.ofString "ABCDEFGHIJKLMNOPQRSTUVWXYZ"
def DIG : Str := PySem.Str.ofString "0123456789"
def inS (S : Str) (c : Nat) : Bool := decide (c ∈ S.cps.toList)
def shortS (x : Str) : Bool := decide (1 ≤ x.length) && decide (x.length ≤ 8)
def isW (x : Str) : Bool := shortS x && x.cps.toList.all (inS ABCR)
def isN (x : Str) : Bool := shortS x && (match x.cps.toList with
  | c :: r => inS CAP c && r.all fun d => inS ABCR d || inS DIG d
  | [] => false)
structure TxtWd (mg : Str → Option Value) : Prop where
  isi : mg "isinstance" = none
  str : mg "str" = none
  len : mg "len" = none
  all : mg "all" = none
  longest : ∃ u, mg "LONGEST" = some u ∧ RelV (.int 8) u
  letters : ∃ u, mg "LETTERS" = some u ∧ RelV (.str ABCR) u
  capitals : ∃ u, mg "CAPITALS" = some u ∧ RelV (.str CAP) u
  digits : ∃ u, mg "DIGITS" = some u ∧ RelV (.str DIG) u
/-- asked of a text, or of what is none -/
def spIs (K : PySem.W.Frag) (f : Str → Bool) : Sp := fun vs H Q _ => ∃ v, vs = [v] ∧ ((∃ x, v = .str x ∧ x.length ≤ sizeLine ∧ ∀ H', Same H H' → Q (.bl (f x)) H') ∨ ((∃ t, TyX K H v t ∧ PySem.W.kitOne K t (.type "str") = some false) ∧ ∀ H', Same H H' → Q (.bl false) H'))
theorem bools_snoc {f : Nat → Bool} {l : List Nat} {i c : Nat} (h : l[i]? = some c) : ((l.take (i + 1)).map f).map V.bl = ((l.take i).map f).map V.bl ++ [V.bl (f c)] := by
  rw [List.take_add_one, h]
  simp
theorem bools_all (f : Nat → Bool) (l : List Nat) : (l.map f).all id = l.all f := by
  rw [List.all_map]
  rfl
section
variable {P : Program} {w : World} {K : PySem.W.Frag} {mg : Str → Option Value} {base : Heap}
end
end K09

namespace K09
open PySem PySem.Spec PyProof.Rows L2 Mine TL
/-! Words, names, pieces, texts, by the program. -/
abbrev sWord : Stmt := top 10
abbrev sName : Stmt := top 11
abbrev sPieces : Stmt := top 12
abbrev sTexts : Stmt := top 15
theorem isW_by (x : Str) : isW x = (decide (x.length ≤ 8) && (Txt.isascii x && (Txt.isalpha x && Txt.islower x))) := by
  rw [word_by]
  unfold isW shortS
  rw [Bool.and_comm (decide (1 ≤ x.length)), Bool.and_assoc]
  rfl
section
variable {P : Program} {w : World} {K : PySem.W.Frag} {mg : Str → Option Value} {base : Heap}
abbrev nWord : List Str := ["thing"]
theorem scWord : FnScope nWord ["thing"] (defScope sWord) := ⟨rfl, rfl, rfl, by decide +kernel, rfl, by decide +kernel, by decide +kernel⟩
theorem ok_Word  {f : Addr} {fd : FuncData} (F : Fun K "is_word" "is_word" sWord f fd) (B : Bi mg) (g_LONGEST : ∃ u, mg "LONGEST" = some u ∧ RelV (.int 8) u) : FnOk P w K mg base CX0 (1) f fd ["thing"] (spIs K isW) := by
  refine F.ok scWord (fun vs H Q E h => ?_) (fun cdv A outer s H vs Q E hr h => ?_)
  · obtain ⟨v, rfl, _⟩ := h
    rfl
  · obtain ⟨v, rfl, h⟩ := h
    have line : sizeLine = 16777216 := sizeLine_eq
    refine ⟨_, (pss_one (ps_ret (pe_and (pe_callB call_isi (by rfl) B.isinstance (by decide +kernel) (pa_cons (pv 0) (pa_cons (pe_bltn (v := .ty "str") rfl B.str (by decide +kernel) rfl) pa_nil))) (pe_and (pe_cmpR op_le (pe_callB call_len_str (by rfl) B.len PySem.boot_len (pa_cons (pv 0) pa_nil)) (C8.pe_gc (v := .int 8) (by rfl) g_LONGEST) (nomark _)) (pe_and (pe_m0 PySem.F.slot_str_isascii PySem.F.type_str_isascii mt_isascii (pv 0)) (pe_and (pe_m0 PySem.F.slot_str_isalpha PySem.F.type_str_isalpha mt_isalpha (pv 0)) (pe_one (pe_m0 PySem.F.slot_str_islower PySem.F.type_str_islower mt_islower (pv 0))))))))), ?_⟩
    rcases h with ⟨x, rfl, sz, k⟩ | ⟨⟨t, ty, kt⟩, k⟩
    · refine ⟨_, rfl, _, _, _, _, true, rfl, .ty "str", .base (.str x), kit_ty rfl, _, rfl, ite2 (fun _ => ?_) (fun z => absurd rfl z)⟩
      have k := k H same_rfl
      rw [isW_by] at k
      refine ⟨_, rfl, x, rfl, sz, _, _, rfl, rfl, _, rfl, ite2 (fun h1 => ?_) (fun h1 => ?_)⟩
      · have l8 : x.length ≤ 8 := by
          have := of_decide_eq_true h1
          omega
        rw [decide_eq_true l8, Bool.true_and] at k
        refine ⟨_, rfl, ⟨x, rfl⟩, x, rfl, rfl, trivial, _, rfl, ite2 (fun h2 => ?_) (fun h2 => ?_)⟩
        · rw [h2, Bool.true_and] at k
          refine ⟨_, rfl, ⟨x, rfl⟩, x, rfl, rfl, trivial, _, rfl, ite2 (fun h3 => ?_) (fun h3 => ?_)⟩
          · rw [h3, Bool.true_and] at k
            exact ⟨_, rfl, ⟨x, rfl⟩, x, rfl, rfl, trivial, k⟩
          · rw [Bool.eq_false_iff.mpr h3] at k
            exact k
        · rw [Bool.eq_false_iff.mpr h2] at k
          exact k
      · have l8 : ¬ x.length ≤ 8 := fun z => h1 (decide_eq_true (by omega))
        rw [decide_eq_false l8] at k
        exact k
    · exact ⟨_, rfl, _, _, _, _, false, rfl, .ty "str", ty, kt, _, rfl, ite2 (fun z => absurd z (by decide)) (fun _ => k H same_rfl)⟩
abbrev nName : List Str := ["thing"]
theorem scName : FnScope nName ["thing"] (defScope sName) := ⟨rfl, rfl, rfl, by decide +kernel, rfl, by decide +kernel, by decide +kernel⟩
theorem ok_Name  {f : Addr} {fd : FuncData} (F : Fun K "is_name" "is_name" sName f fd) (B : Bi mg) (g_LONGEST : ∃ u, mg "LONGEST" = some u ∧ RelV (.int 8) u) : FnOk P w K mg base CX0 (1) f fd ["thing"] (spIs K isN) := by
  refine F.ok scName (fun vs H Q E h => ?_) (fun cdv A outer s H vs Q E hr h => ?_)
  · obtain ⟨v, rfl, _⟩ := h
    rfl
  · obtain ⟨v, rfl, h⟩ := h
    have line : sizeLine = 16777216 := sizeLine_eq
    refine ⟨_, (pss_cons (ps_if (PW.pt (pw_or (pt_not (pt_val (pe_callB call_isi (by rfl) B.isinstance (by decide +kernel) (pa_cons (pv 0) (pa_cons (pe_bltn (v := .ty "str") rfl B.str (by decide +kernel) rfl) pa_nil))))) (pw_or (pt_not (pt_chain op_le op_le pe_int (pe_callB call_len_str (by rfl) B.len PySem.boot_len (pa_cons (pv 0) pa_nil)) (C8.pe_gc (v := .int 8) (by rfl) g_LONGEST))) (pw_or (pt_not (pt_val (pe_m0 PySem.F.slot_str_isascii PySem.F.type_str_isascii mt_isascii (pv 0)))) (pw_or1 (pt_not (pt_val (pe_m0 PySem.F.slot_str_isalnum PySem.F.type_str_isalnum mt_isalnum (pv 0))))))))) (pss_one (ps_ret pe_bl)) pss_nil)
      (pss_one (ps_ret (pe_and (pe_chain op_le_str op_le_str pe_str (pe_ix ix_str (pv 0) pe_int (fun _ _ => rfl)) pe_str) (pe_one (pe_cmpR op_eq (pv 0) (pe_m0 PySem.F.slot_str_capitalize PySem.F.type_str_capitalize mt_capitalize (pv 0)) (nomark _))))))), ?_⟩
    rcases h with ⟨x, rfl, sz, k⟩ | ⟨⟨t, ty, kt⟩, k⟩
    · have k := k H same_rfl
      have hl : x.length = x.cps.toList.length := by simp [Str.length]
      refine ⟨_, rfl, _, _, _, _, true, rfl, .ty "str", .base (.str x), kit_ty rfl, _, rfl, ite2 (fun z => absurd z (by decide)) (fun _ => ?_)⟩
      refine ⟨_, rfl, x, rfl, sz, _, _, rfl, rfl, _, rfl, ite2 (fun h1 => ?_) (fun h1 => ?_)⟩
      · have l1 : 1 ≤ x.length := by
          have := of_decide_eq_true h1
          omega
        refine ⟨_, _, rfl, rfl, _, rfl, ite2 (fun z => ?_) (fun z => ?_)⟩
        · have e : isN x = false := by
            unfold isN shortS
            have z' : (!decide ((x.length : Int) ≤ 8)) = true := z
            have : ¬ x.length ≤ 8 := fun q => by
              rw [decide_eq_true (show (x.length : Int) ≤ 8 by omega)] at z'
              cases z'
            rw [decide_eq_false this, Bool.and_false, Bool.false_and]
          rw [e] at k
          exact k
        · have l8 : x.length ≤ 8 := by
            have z' : ¬ (!decide ((x.length : Int) ≤ 8)) = true := z
            have : decide ((x.length : Int) ≤ 8) = true := by
              cases q : decide ((x.length : Int) ≤ 8) with
              | true => rfl
              | false => rw [q] at z'; exact absurd rfl z'
            have := of_decide_eq_true this
            omega
          obtain ⟨c, r, hx⟩ : ∃ c r, x.cps.toList = c :: r := by
            cases q : x.cps.toList with
            | nil => rw [hl, q] at l1; exact absurd l1 (by decide)
            | cons c r => exact ⟨c, r, rfl⟩
          have eN : isN x = (decide (c ∈ azU.cps.toList) && r.all fun d => decide (d ∈ azL.cps.toList) || decide (d ∈ dig10.cps.toList)) := by
            unfold isN shortS
            rw [decide_eq_true l1, decide_eq_true l8, hx]
            rfl
          rw [eN] at k
          refine ⟨_, rfl, ⟨x, rfl⟩, x, rfl, rfl, trivial, _, rfl, ?_⟩
          cases ha : Txt.isascii x with
          | false =>
            rw [name_not hx (by rw [ha]; rfl)] at k
            exact k
          | true =>
          refine ite2 (fun z => absurd z (by decide)) (fun _ => ?_)
          refine ⟨_, rfl, ⟨x, rfl⟩, x, rfl, rfl, trivial, _, rfl, ?_⟩
          cases hd : Txt.isalnum x with
          | false =>
            rw [name_not hx (by rw [hd, Bool.and_false])] at k
            exact k
          | true =>
          refine ite2 (fun z => absurd z (by decide)) (fun _ => ?_)
          rw [← name_by hx (by rw [ha, hd]; rfl)] at k
          have eA : (PySem.Str.ofString "A").cps.toList = [65] := by decide +kernel
          have eZ : (PySem.Str.ofString "Z").cps.toList = [90] := by decide +kernel
          have at0 : atI x.cps.toList 0 = some c := by rw [hx]; exact atI_nat (j := 0) rfl
          refine ⟨_, rfl, x, 0, c, rfl, rfl, by omega, at0, _, _, rfl, rfl, _, rfl, ?_⟩
          rw [eA]
          show (if (!decide (([c] : List Nat) < [65])) = true then _ else _)
          rw [sign_ge]
          by_cases c1 : c < 65
          · rw [decide_eq_true c1]
            rw [decide_eq_false (show ¬ (65 ≤ c ∧ c ≤ 90) by omega)] at k
            refine ⟨_, rfl, ite2 (fun z => absurd z (by decide)) (fun _ => ?_)⟩
            exact k
          · rw [decide_eq_false c1]
            refine ite2 (fun _ => ?_) (fun z => absurd rfl z)
            refine ⟨_, _, rfl, rfl, ?_⟩
            rw [eZ]
            refine ⟨_, rfl, ?_⟩
            show (if (!decide (([90] : List Nat) < [c])) = true then _ else _)
            rw [sign_ge]
            by_cases c2 : 90 < c
            · rw [decide_eq_true c2]
              rw [decide_eq_false (show ¬ (65 ≤ c ∧ c ≤ 90) by omega)] at k
              exact k
            · rw [decide_eq_false c2]
              rw [decide_eq_true (show 65 ≤ c ∧ c ≤ 90 by omega), Bool.true_and] at k
              refine ite2 (fun _ => ?_) (fun z => absurd rfl z)
              refine ⟨_, rfl, _, rfl, ⟨x, rfl⟩, x, rfl, rfl, by omega, rfl, ?_⟩
              have e : decide (V.str x = V.str (Txt.capitalize x)) = decide (x = Txt.capitalize x) := by
                by_cases h : x = Txt.capitalize x
                · rw [decide_eq_true h, decide_eq_true (congrArg V.str h)]
                · rw [decide_eq_false h, decide_eq_false fun z => h (by injection z)]
              rw [e]
              exact k
      · have e : isN x = false := by
          unfold isN shortS
          have : ¬ 1 ≤ x.length := fun q => h1 (decide_eq_true (by omega))
          rw [decide_eq_false this, Bool.false_and, Bool.false_and]
        refine ⟨_, rfl, ite2 (fun _ => ?_) (fun z => absurd rfl z)⟩
        rw [e] at k
        exact k
    · exact ⟨_, rfl, _, _, _, _, false, rfl, .ty "str", ty, kt, _, rfl, ite2 (fun _ => k H same_rfl) (fun z => absurd rfl z)⟩
abbrev nPieces : List Str := ["things", "pieces", "level", "piece", "part"]
theorem scPieces : FnScope nPieces ["things"] (defScope sPieces) := ⟨rfl, rfl, rfl, by decide +kernel, rfl, by decide +kernel, by decide +kernel⟩
theorem ok_Pieces  {f : Addr} {fd : FuncData} (F : Fun K "all_pieces" "all_pieces" sPieces f fd) (B : Bi mg) : FnOk P w K mg base CX0 (1) f fd ["things"] (spPieces K) := by
  refine F.ok scPieces (fun vs H Q E h => ?_) (fun cdv A outer s H vs Q E hr h => ?_)
  · obtain ⟨a, ws, ts, rfl, _⟩ := h
    rfl
  · obtain ⟨a, ws, ts, rfl, ha, hd, ht, hn, k⟩ := h
    have line : sizeLine = 16777216 := sizeLine_eq
    refine ⟨_, (pss_cons (ps_set (i := 1) scPieces.nd rfl (.inl rfl) (pe_lst pa_nil))
      (pss_cons (ps_set (i := 2) scPieces.nd rfl (.inl rfl) (pe_callTy call_list_of (by rfl) B.list (by decide +kernel) (pa_cons (pv 0) pa_nil)))
      (pss_cons (ps_while PassesOwn.never (pt_truth (pv 2) (fun _ => rfl)) (pss_cons (ps_expr (pe_bm PySem.F.plainAttrs_list PySem.F.slot_list_extend PySem.F.type_list_extend mt_extend (pv 1) (pa_cons (pv 2) pa_nil)))
      (pss_one (ps_setLc2 (i := 2) (own := [("piece", 3), ("part", 4)]) (vs1 := [4]) (g := (gName 3)) (g1 := (gName 4)) (tt1 := tYes) rfl scPieces.nd rfl rfl (sw_true rfl rfl rfl (by decide +kernel)) (pi_list (pv 2)) (blkOk_by (own := [("piece", 3), ("part", 4)]) (N := nPieces) (sc := defScope sPieces) (by decide +kernel)) (by decide) (fun _ _ _ _ _ => (pg_name (i := 3) scPieces.nd rfl (Or.inl rfl))) (fun _ _ _ _ _ => (pts_one (pt_val (pe_callB (call_isiK (K := K) rfl) (by rfl) B.isinstance (by decide +kernel) (pa_cons (pv 3) (pa_cons (pe_bltn (v := .ty "tuple") rfl B.tuple (by decide +kernel) rfl) pa_nil)))))) (fun _ _ _ _ _ => (pi_tupK (K := K) rfl (pe_slice (sl_tupFK (K := K) rfl) (pv 3) (po_some pe_int) po_none))) (fun _ _ _ _ _ => (pg_name (i := 4) scPieces.nd rfl (Or.inl rfl))) (fun _ _ _ _ _ => pts_nil) (fun _ _ _ _ _ => (pv 4))))))
      (pss_one (ps_ret (pv 1)))))), ?_⟩
    have tsA : thingAll ts = true := thingAll_iff.mpr ht
    refine ⟨by show 0 ≤ sizeLine; omega, fun p hp => ?_⟩
    first | generalize hGp : upd _ p _ = H0 | (show Ends.nx _ _ (upd _ p _); generalize hGp : upd _ p _ = H0)
    have s0 := same_of_upd hp hGp
    have e0 := at_of_upd hGp
    have ha0 : SqL K H0 a ws ∨ SqT K H0 a ws := ha.elim (fun z => .inl (sqL_sm s0 z)) (fun z => .inr (sqT_sm s0 z))
    have hd0 := ths_kt (kt_same s0) ts ws tsA hd
    refine ⟨_, rfl, a, _, rfl, ha0, fun l hl => ?_⟩
    have lp : p ≠ l := ne_of_none e0 hl
    first | generalize hGl : upd _ l _ = H1 | (show Ends.nx _ _ (upd _ l _); generalize hGl : upd _ l _ = H1)
    have s1 := same_of_upd hl hGl
    have e1 := at_of_upd hGl
    have e0' := s1 _ _ e0
    have hd1 := ths_kt (kt_same s1) ts ws tsA hd0
    refine ⟨fun m σ H' => ∃ (D R : List PyData) (us ls : List V) (la : Addr), σ = [some (.ref a), some (.ref p), some (.ref la), none, none] ∧ p ≠ la ∧ H' p = some (.lst us) ∧ H' la = some (.lst ls) ∧ DpAll K H' us D ∧ DpAll K H' ls R ∧ BfsW ts D R ∧ Same H H' ∧ m = (ts.flatMap lot).length - D.length,
      ⟨_, [], ts, [], ws, l, rfl, lp, e0', e1, .nil, hd1, .init ts, fun b o e => s1 _ _ (s0 _ _ e), rfl⟩, ?_⟩
    rintro m σ H' ⟨D, R, us, ls, la, rfl, pl, ep, el, du, dl, bw, sm, rfl⟩
    have ul := dps_len du
    have ll := dps_len dl
    have cnt := bw.count
    refine ⟨_, rfl, !ls.isEmpty, .inl ⟨_, SqL.of el, rfl⟩, ?_⟩
    rcases List.eq_nil_or_concat R with rfl | ⟨R0, r0, rR⟩
    · have : ls = [] := List.eq_nil_of_length_eq_zero (by rw [ll]; rfl)
      subst this
      exact ⟨_, rfl, k p D us H' sm hp ep du bw.fin⟩
    · have Rne : 0 < R.length := by rw [rR, List.concat_eq_append]; simp
      have ne : (!ls.isEmpty) = true := by
        cases ls with
        | nil => rw [← ll] at Rne; simp at Rne
        | cons => rfl
      clear rR
      rw [if_pos ne]
      refine ⟨fun σ' H'' => ∃ m' < (ts.flatMap lot).length - D.length, ∃ (D R : List PyData) (us ls : List V) (la : Addr), σ' = [some (.ref a), some (.ref p), some (.ref la), none, none] ∧ p ≠ la ∧ H'' p = some (.lst us) ∧ H'' la = some (.lst ls) ∧ DpAll K H'' us D ∧ DpAll K H'' ls R ∧ BfsW ts D R ∧ Same H H'' ∧ m' = (ts.flatMap lot).length - D.length, fun σ' H'' ⟨m', lt, z⟩ => ⟨m', lt, z⟩, ?_⟩
      have tall : ∀ y ∈ D ++ R, thing y = true := by
        intro y hy
        rw [bw.eq] at hy
        rcases List.mem_append.mp hy with hy | hy
        · exact ht y hy
        · obtain ⟨z, hz, hy⟩ := List.mem_flatMap.mp hy
          obtain ⟨t, ht1, ht2⟩ := List.mem_flatMap.mp (bw.perm.mem_iff.mp (List.mem_append_left _ hz))
          exact thing_kids (lot_thing _ t (Nat.le_refl _) (ht t ht1) z ht2) hy
      have tD : thingAll D = true := thingAll_iff.mpr fun y hy => tall y (List.mem_append_left _ hy)
      have tR : thingAll R = true := thingAll_iff.mpr fun y hy => tall y (List.mem_append_right _ hy)
      have bl := bw.level
      have cnt2 := bl.count
      rw [List.length_append] at cnt2
      refine ⟨_, rfl, .inl ⟨rfl, _, SqL.of ep⟩, _, rfl, p, la, us, ls, rfl, rfl, ep, el, by omega, ?_⟩
      show Ends.nx _ _ (upd H' p (.lst (us ++ ls)))
      have kt2 : KT K H' (upd H' p (.lst (us ++ ls))) := kt_lst ep
      have e2 : upd H' p (.lst (us ++ ls)) p = some (.lst (us ++ ls)) := upd_same
      have el2 : upd H' p (.lst (us ++ ls)) la = some (.lst ls) := (upd_ne (Ne.symm pl)).trans el
      have du2 := ths_kt kt2 D us tD du
      have dl2 := ths_kt kt2 R ls tR dl
      have sm2 : Same H (upd H' p (.lst (us ++ ls))) := fun b o e => (upd_ne (ne_of_none e hp)).trans (sm _ _ e)
      generalize upd H' p (.lst (us ++ ls)) = H2 at e2 el2 du2 dl2 sm2
      refine ⟨_, rfl, la, rfl, ⟨_, SqL.of el2⟩, fun L hL => ?_⟩
      have offL : ∀ {b o} {v : HO}, H2 b = some o → ∀ H3 : Hp, H3 b = some o → upd H3 L v b = some o := fun e H3 e3 => (upd_ne (ne_of_none e hL)).trans e3
      refine out_list (K := K) (a := la) (xs := ls) (fun i H3 => ∃ acc, H3 L = some (.lst acc) ∧ DpAll K H3 acc ((R.take i).flatMap kids) ∧ Same H2 H3) ⟨[], upd_same, .nil, fun b o e => offL e _ e⟩ (fun i H3 _ ⟨_, _, _, z⟩ => SqL.of (z _ _ el2)) ?_ ?_
      · rintro i x H3 hi ⟨acc, eL, da, s3⟩
        obtain ⟨d, hdR⟩ : ∃ d, R[i]? = some d := ⟨R[i]'(by rw [← ll]; exact (List.getElem?_eq_some_iff.mp hi).1), List.getElem?_eq_getElem _⟩
        obtain ⟨v, hv, dv⟩ := dps_at dl2 hdR
        rw [hi] at hv
        injection hv with hv
        subst hv
        have td : thing d = true := tall d (List.mem_append_right _ (List.mem_of_getElem? hdR))
        have dv3 := th_kt (kt_same s3) d x td dv
        have tk : (R.take (i + 1)).flatMap kids = (R.take i).flatMap kids ++ kids d := by
          rw [List.take_add_one, hdR]
          simp
        have szk : ((R.take i).flatMap kids).length + (kids d).length ≤ 10000 := by
          have : ((R.take (i + 1)).flatMap kids).length ≤ (R.flatMap kids).length := by
            conv => rhs; rw [← List.take_append_drop (i + 1) R]
            rw [List.flatMap_append, List.length_append]
            omega
          rw [tk, List.length_append] at this
          omega
        have tkA : thingAll ((R.take i).flatMap kids) = true := thingAll_iff.mpr fun y hy => by
          obtain ⟨z, hz, hy⟩ := List.mem_flatMap.mp hy
          exact thing_kids (tall z (List.mem_append_right _ (List.mem_of_mem_take hz))) hy
        refine ⟨rfl, ?_⟩
        rcases th_cases td dv3 with ⟨c, rfl, rfl⟩ | ⟨b, c, zs, ps, rfl, rfl, hb, hzs, _, hps⟩
        · refine ⟨_, rfl, _, _, _, _, false, rfl, .ty "tuple", .base (.str _), kit_ty rfl, _, rfl, ?_⟩
          refine ite2 (fun z => absurd z (by decide)) (fun _ => ?_)
          refine ⟨acc, eL, ?_, s3⟩
          rw [tk]
          simpa [kids] using da
        · have kn : kids (.tuple (.str c :: ps)) = ps := rfl
          rw [kn] at szk tk
          have zl := dps_len hzs
          have tps : thingAll ps = true := thingAll_iff.mpr hps
          refine ⟨_, rfl, _, _, _, _, true, rfl, .ty "tuple", sqT_ty' hb, kit_ty rfl, _, rfl, ?_⟩
          refine ite2 (fun _ => ?_) (fun z => absurd rfl z)
          refine ⟨_, rfl, _, rfl, b, _, rfl, hb, by simp [HT.sIx], fun q o hq ho => ?_⟩
          rw [cut1']
          have sq : Same H3 (upd H3 q (.frz o (.tup zs))) := same_new same_rfl hq
          have qL : L ≠ q := ne_of_none eL hq
          refine ⟨q, rfl, ⟨_, .inl (.inr ⟨o, upd_same⟩)⟩, ?_⟩
          have hqz : SqT K (upd H3 q (.frz o (.tup zs))) q zs := .inl (.inr ⟨o, upd_same⟩)
          have hzs4 := ths_kt (kt_same sq) ps zs tps hzs
          have da4 := ths_kt (kt_same sq) _ acc tkA da
          have eL4 := sq _ _ eL
          have s4 : Same H2 (upd H3 q (.frz o (.tup zs))) := fun b o e => sq _ _ (s3 _ _ e)
          generalize upd H3 q (.frz o (.tup zs)) = H4 at hqz hzs4 da4 eL4 s4
          refine in_tup (K := K) (a := q) (xs := zs) (D := L) (fun j H5 => ∃ acc, H5 L = some (.lst acc) ∧ DpAll K H5 acc ((R.take i).flatMap kids ++ ps.take j) ∧ SqT K H5 q zs ∧ DpAll K H5 zs ps ∧ Same H2 H5) ⟨acc, eL4, by simpa using da4, hqz, hzs4, s4⟩ (fun j H5 _ ⟨_, _, _, z, _⟩ => z) ?_ ?_
          · rintro j y H5 hj ⟨acc5, eL5, da5, hq5, hz5, s5⟩
            obtain ⟨d5, hd5⟩ : ∃ d5, ps[j]? = some d5 := ⟨ps[j]'(by rw [← zl]; exact (List.getElem?_eq_some_iff.mp hj).1), List.getElem?_eq_getElem _⟩
            obtain ⟨v5, hv5, dv5⟩ := dps_at hz5 hd5
            rw [hj] at hv5
            injection hv5 with hv5
            subst hv5
            refine ⟨rfl, ?_⟩
            refine yes_if ?_
            have al := dps_len da5
            have tkj : ps.take (j + 1) = ps.take j ++ [d5] := by rw [List.take_add_one, hd5]; rfl
            have jl : j < ps.length := (List.getElem?_eq_some_iff.mp hd5).1
            have kt5 : KT K H5 (upd H5 L (.lst (acc5 ++ [y]))) := kt_lst eL5
            have t5 : thingAll ((R.take i).flatMap kids ++ ps.take (j + 1)) = true := thingAll_iff.mpr fun z hz => by
              rcases List.mem_append.mp hz with hz | hz
              · exact thingAll_iff.mp tkA z hz
              · exact hps z (List.mem_of_mem_take hz)
            refine ⟨_, rfl, acc5, eL5, ?_, acc5 ++ [y], upd_same, ?_, kt5 _ _ hq5, ths_kt kt5 ps zs tps hz5, fun b o e => offL e _ (s5 _ _ e)⟩
            · rw [al, List.length_append, List.length_take]
              omega
            · refine ths_kt kt5 _ _ t5 ?_
              rw [tkj, ← List.append_assoc]
              exact dps_app da5 (.cons dv5 .nil)
          · rintro H5 ⟨acc5, eL5, da5, _, _, s5⟩
            refine ⟨acc5, eL5, ?_, s5⟩
            rw [tk]
            rw [zl, List.take_of_length_le (Nat.le_refl _)] at da5
            exact da5
      · rintro H3 ⟨acc, eL, da, s3⟩
        have pL : p ≠ L := ne_of_none e2 hL
        have tk : R.take ls.length = R := List.take_of_length_le (by omega)
        rw [tk] at da
        refine ⟨(ts.flatMap lot).length - (D ++ R).length, by rw [List.length_append]; omega, D ++ R, R.flatMap kids, us ++ ls, acc, L, rfl, pL, s3 _ _ e2, eL, ?_, da, bl, fun b o e => s3 _ _ (sm2 _ _ e), rfl⟩
        exact ths_kt (kt_same s3) _ _ (thingAll_iff.mpr tall) (dps_app du2 dl2)
abbrev nTexts : List Str := ["pieces", "texts", "end", "at", "piece", "begin"]
theorem scTexts : FnScope nTexts ["pieces"] (defScope sTexts) := ⟨rfl, rfl, rfl, by decide +kernel, rfl, by decide +kernel, by decide +kernel⟩
theorem ok_Texts  {f : Addr} {fd : FuncData} (F : Fun K "all_texts" "all_texts" sTexts f fd) (B : Bi mg) : FnOk P w K mg base CX0 (1) f fd ["pieces"] (spTexts K) := by
  refine F.ok scTexts (fun vs H Q E h => ?_) (fun cdv A outer s H vs Q E hr h => ?_)
  · obtain ⟨a, us, ts, Ps, rfl, _⟩ := h
    rfl
  · obtain ⟨a, us, ts, Ps, rfl, ha, hd, fit, k⟩ := h
    have line : sizeLine = 16777216 := sizeLine_eq
    refine ⟨_, (pss_cons (ps_set (i := 1) scTexts.nd rfl (.inl rfl) (pe_callTy call_list_of (by rfl) B.list (by decide +kernel) (pa_cons (pv 0) pa_nil)))
      (pss_cons (ps_set (i := 2) scTexts.nd rfl (.inl rfl) (pe_callB call_len_seq (by rfl) B.len PySem.boot_len (pa_cons (pv 0) pa_nil)))
      (pss_cons (ps_for PassesOwn.never rfl (pi_revR (by rfl) B.reversed (prg_1 (by rfl) B.range (pe_callB call_len_seq (by rfl) B.len PySem.boot_len (pa_cons (pv 0) pa_nil)))) (pg_name (i := 3) scTexts.nd rfl (Or.inl rfl))
        (pss_cons (ps_set (i := 4) scTexts.nd rfl (.inl rfl) (pe_ix ix_list (pv 0) (pv 3) (fun _ _ => rfl)))
      (pss_one (ps_if (pt_val (pe_callB call_isi (by rfl) B.isinstance (by decide +kernel) (pa_cons (pv 4) (pa_cons (pe_bltn (v := .ty "tuple") rfl B.tuple (by decide +kernel) rfl) pa_nil)))) (pss_cons (ps_set (i := 5) scTexts.nd rfl (.inl rfl) (pe_op op_add (pe_op op_sub (pv 2) (pe_callB call_len_seq (by rfl) B.len PySem.boot_len (pa_cons (pv 4) pa_nil))) pe_int))
      (pss_cons (ps_asg (pe_joined (PJ.cons (pe_fmt (pe_ix ix_tup (pv 4) pe_int (fun _ _ => rfl))) (PJ.cons pe_str (PJ.cons (pe_fmt (pe_m1 PySem.F.slot_str_join PySem.F.type_str_join mt_join pe_str (pe_slice sl_list (pv 1) (po_some (pv 5)) (po_some (pv 2))))) (PJ.cons pe_str PJ.nil))))) (pg_sub (pv 1) (pv 3) set_list))
      (pss_one (ps_set (i := 2) scTexts.nd rfl (.inl rfl) (pv 5))))) pss_nil))))
      (pss_one (ps_ret (pv 1)))))), ?_⟩
    have ul := dps_len hd
    have line : sizeLine = 16777216 := sizeLine_eq
    have many := fit.many
    have all := fit.bfs.all
    refine ⟨_, rfl, a, _, rfl, .inl (SqL.of ha), fun q hq => ?_⟩
    have s1 : Same H (upd H q (.lst us)) := same_new same_rfl hq
    have eq0 : upd H q (.lst us) q = some (.lst us) := upd_same
    show Ends.nx _ _ (upd H q (.lst us))
    generalize upd H q (.lst us) = H1 at s1 eq0
    refine ⟨_, rfl, a, _, rfl, .inl (SqL.of (s1 _ _ ha)), _, rfl, a, _, rfl, .inl (SqL.of (s1 _ _ ha)), _, rfl, by decide, by decide, by omega, by omega, ?_⟩
    refine for_rangeC (n := ((us.length : Int) - 0).toNat) (fun i σ H' => ∃ o3 o4 o5 : Option V, σ = [some (.ref a), some (.ref q), some (.int (endAt ts Ps (us.length - i) : Nat)), o3, o4, o5] ∧ H' q = some (.lst (half us Ps (us.length - i))) ∧ Same H H')
      ⟨none, none, none, ?_, ?_, s1⟩ ?_ ?_
    · have e : endAt ts Ps us.length = us.length := by
        unfold endAt
        rw [List.take_of_length_le (by omega)]
        omega
      rw [Nat.sub_zero, e]
      rfl
    · rw [Nat.sub_zero]
      unfold half
      rw [List.take_of_length_le (Nat.le_refl _), List.drop_eq_nil_of_le (by omega)]
      simpa using eq0
    · rintro i σ H' hi ⟨o3, o4, o5, rfl, eq, sm⟩
      have hi' : i < us.length := by omega
      obtain ⟨m, hm⟩ : ∃ m, us.length - i = m + 1 := ⟨us.length - i - 1, by omega⟩
      have hm2 : us.length - (i + 1) = m := by omega
      have mlt : m < Ps.length := by omega
      rw [hm] at eq
      have item : (0 : Int) + ((((us.length : Int) - 0).toNat : Nat) : Int) - 1 + ((i : Nat) : Int) * (-1) = ((m : Nat) : Int) := by omega
      have hx : Ps[m]? = some Ps[m] := List.getElem?_eq_getElem mlt
      obtain ⟨v, hv, dv⟩ := dps_at hd hx
      generalize Ps[m] = x at hx dv
      have xm := List.mem_of_getElem? hx
      have tx := fit.things x xm
      obtain ⟨b1, b2, b3, b4⟩ := fit.bfs.at_ hx
      refine ⟨_, rfl, _, rfl, a, _, _, _, rfl, rfl, SqL.of (sm _ _ ha), (by rw [item]; exact atI_nat hv), ?_⟩
      have dv' := th_kt (kt_same sm) x v tx dv
      have dr : Ps.drop m = x :: Ps.drop (m + 1) := by
        rw [List.drop_eq_getElem_cons mlt]
        have := List.getElem?_eq_getElem mlt
        rw [hx] at this
        injection this with this
        rw [← this]
      rw [hm2]
      rcases th_cases tx dv' with ⟨c, rfl, rfl⟩ | ⟨b, c, zs, ps, rfl, rfl, hb, hzs, pne, _⟩
      · refine ⟨_, rfl, _, _, _, _, false, rfl, .ty "tuple", .base (.str _), kit_ty rfl, _, rfl, ite2 (fun z => absurd z (by decide)) (fun _ => ?_)⟩
        refine ⟨some (.int ((0 : Int) + ((((us.length : Int) - 0).toNat : Nat) : Int) - 1 + ((i : Nat) : Int) * (-1))), some (.str c), o5, ?_, ?_, sm⟩
        · have e : endAt ts Ps (m + 1) = endAt ts Ps m := by
            unfold endAt
            rw [b2]
            rfl
          rw [hm, e]
          rfl
        · rw [eq]
          unfold half
          rw [List.take_add_one, hv, dr]
          simp [txt_str]
      · have zl := dps_len hzs
        have kn : kids (.tuple (.str c :: ps)) = ps := rfl
        rw [kn] at b1 b2 b3
        have bE : endAt ts Ps (m + 1) = endAt ts Ps m + ps.length := b2
        have e3 : endAt ts Ps m + ps.length ≤ Ps.length := b3
        have e4 : m < endAt ts Ps m := b4
        rw [hm, bE]
        refine ⟨_, rfl, _, _, _, _, true, rfl, .ty "tuple", sqT_ty' hb, kit_ty rfl, _, rfl, ite2 (fun _ => ?_) (fun z => absurd rfl z)⟩
        refine ⟨_, rfl, _, rfl, b, _, rfl, .inr hb, _, _, rfl, rfl, _, _, rfl, rfl, ?_⟩
        have bg : ((endAt ts Ps m + ps.length : Nat) : Int) - (((V.str c :: zs).length : Nat) : Int) + 1 = ((endAt ts Ps m : Nat) : Int) := by
          rw [List.length_cons]
          omega
        have parts : cutV (half us Ps (m + 1)) (some (((endAt ts Ps m + ps.length : Nat) : Int) - (((V.str c :: zs).length : Nat) : Int) + 1)) (some ((endAt ts Ps m + ps.length : Nat) : Int)) = (ps.map txt).map V.str := by
          rw [bg]
          unfold cutV
          have hl : (half us Ps (m + 1)).length = Ps.length := by
            unfold half
            rw [List.length_append, List.length_take, List.length_map, List.length_map, List.length_drop]
            omega
          rw [hl, HT.sIx_nat, HT.sIx_nat, Nat.min_eq_left (by omega), Nat.min_eq_left (by omega)]
          have e5 : endAt ts Ps m + ps.length - endAt ts Ps m = ps.length := by omega
          rw [e5]
          unfold half
          rw [List.drop_append, List.length_take, Nat.min_eq_left (by omega), List.drop_eq_nil_of_le (by rw [List.length_take]; omega), List.nil_append, ← List.map_drop, ← List.map_drop, List.drop_drop, ← List.map_take, ← List.map_take]
          have e6 : m + 1 + (endAt ts Ps m - (m + 1)) = endAt ts Ps m := by omega
          rw [e6]
          have b1' : List.take ps.length (List.drop (endAt ts Ps m) Ps) = ps := b1
          rw [b1']
        have tl1 := fit.long _ xm
        rw [txt_tup] at tl1
        have comma1 : (PySem.Str.ofString ",").length = 1 := by decide +kernel
        have o1 : (PySem.Str.ofString "(").length = 1 := by decide +kernel
        have o2 : (PySem.Str.ofString ")").length = 1 := by decide +kernel
        have o0 : Str.empty.length = 0 := by decide +kernel
        have jl := join_len (y := PySem.Str.ofString ",") (ps := ps.map txt) (by simpa using pne)
        rw [strLen_append, strLen_append, strLen_append, o1, o2] at tl1
        rw [comma1] at jl
        refine ⟨_, rfl, b, _, _, _, rfl, rfl, hb, at0, .inl ⟨c, rfl, by omega, _, rfl, by rw [strLen_append]; omega, _, rfl, by rw [strLen_append, strLen_append]; omega, ?_⟩⟩
        refine ⟨⟨_, rfl⟩, _, rfl, _, rfl, _, rfl, _, rfl, _, rfl, q, _, rfl, SqL.of eq, fun r hr => ?_⟩
        rw [parts]
        refine ⟨_, r, ps.map txt, rfl, rfl, .inl (SqL.of upd_same), by rw [comma1]; omega, ?_⟩
        have eqr : upd H' r (.lst ((ps.map txt).map V.str)) q = some (.lst (half us Ps (m + 1))) := (upd_ne (ne_of_none eq hr)).trans eq
        have ktr : KT K H' (upd H' r (.lst ((ps.map txt).map V.str))) := kt_new hr
        refine .inl ⟨_, rfl, by rw [join_eq]; omega, _, rfl, by rw [strLen_append, strLen_append, strLen_append, join_eq]; omega, _, rfl, by rw [strLen_append, strLen_append, strLen_append, strLen_append, join_eq]; omega, ?_⟩
        have tlx : half us Ps (m + 1) = us.take (m + 1) ++ ((Ps.drop (m + 1)).map txt).map V.str := rfl
        have hlen : m < (half us Ps (m + 1)).length := by
          rw [tlx, List.length_append, List.length_take]
          omega
        have ix : ixN (half us Ps (m + 1)).length ((0 : Int) + ((((us.length : Int) - 0).toNat : Nat) : Int) - 1 + ((i : Nat) : Int) * (-1)) = some m := by
          rw [item]
          unfold ixN
          rw [if_pos (by omega), if_pos (by omega), Int.toNat_natCast]
        refine ⟨_, rfl, _, rfl, q, _, _, m, rfl, rfl, eqr, ix, ?_⟩
        refine ⟨_, rfl, some (.int ((0 : Int) + ((((us.length : Int) - 0).toNat : Nat) : Int) - 1 + ((i : Nat) : Int) * (-1))), some (.ref b), some (.int (((endAt ts Ps m + ps.length : Nat) : Int) - (((V.str c :: zs).length : Nat) : Int) + 1)), ?_, ?_, fun b1 o1' e1' => (upd_ne (ne_of_none e1' hq)).trans ((upd_ne (ne_of_none (sm _ _ e1') hr)).trans (sm _ _ e1'))⟩
        · rw [← bg]
          rfl
        · rw [upd_same, tlx, set_mid hv]
          unfold half
          rw [dr]
          have et : Str.empty ++ c ++ PySem.Str.ofString "(" ++ Txt.join (PySem.Str.ofString ",") (ps.map txt) ++ PySem.Str.ofString ")" = txt (.tuple (.str c :: ps)) := by
            rw [txt_tup, join_eq]
            refine ext_tl ?_
            have e : tl Str.empty = [] := by decide +kernel
            simp only [tl_append, e, List.nil_append]
          rw [et]
          rfl
    · rintro σ H' ⟨o3, o4, o5, rfl, eq, sm⟩
      have z : us.length - ((us.length : Int) - 0).toNat = 0 := by omega
      rw [z] at eq
      refine ⟨_, rfl, k q H' sm hq ?_⟩
      rw [eq]
      unfold half
      simp
end
end K09


namespace K09
open PySem PySem.Spec PyProof.Rows L2 Mine TL
/-! Kinds, openings, books, by the program. -/
abbrev sInt : Stmt := top 35
abbrev sRKinds : Stmt := top 36
abbrev sROpens : Stmt := top 37
abbrev sOpenQ : Stmt := top 38
abbrev sNeedQ : Stmt := top 39
abbrev sOne : Stmt := top 40
abbrev sBInit : Stmt := inClass (top 34) 0
theorem ww_isW : ∀ x ∈ WW, isW x = true := by decide +kernel
theorem ww_ne {x : Str} (h : x ∈ WW) : decide ((PySem.Str.ofString "").cps.toList < x.cps.toList) = true := by
  have l := (ww_len x h).1
  have hl : x.length = x.cps.toList.length := by simp [Str.length]
  refine decide_eq_true ?_
  show ([] : List Nat) < x.cps.toList
  cases q : x.cps.toList with
  | nil => rw [hl, q] at l; exact absurd l (by decide)
  | cons c r => exact List.Lex.nil
/-- asked of a word: yes -/
theorem ww_is {K : PySem.W.Frag} {x : Str} {H : Hp} {Q : VK} {E : XK} (h : x ∈ WW) (k : ∀ H', Same H H' → Q (.bl true) H') : spIs K isW [.str x] H Q E :=
  ⟨_, rfl, .inl ⟨x, rfl, by rw [sizeLine_eq]; have := (ww_len x h).2; omega, fun H' s => by rw [ww_isW x h]; exact k H' s⟩⟩
/-- the word ahead of place i, none at first -/
def lastW (ws : List Str) (i : Nat) : Str := match i with
  | 0 => PySem.Str.ofString ""
  | i + 1 => ws.getD i (PySem.Str.ofString "")
theorem last_lt {ws : List Str} (a : Asc ws) (w : ∀ x ∈ ws, x ∈ WW) {i : Nat} {x : Str} (h : ws[i]? = some x) : decide ((lastW ws i).cps.toList < x.cps.toList) = true := by
  cases i with
  | zero => exact ww_ne (w x (List.mem_of_getElem? h))
  | succ i =>
    have il : i < ws.length := by have := (List.getElem?_eq_some_iff.mp h).1; omega
    have e := List.getElem?_eq_getElem il
    refine decide_eq_true ?_
    show (ws.getD i _).cps.toList < _
    rw [List.getD_eq_getElem?_getD, e]
    exact a i _ _ e h
theorem last_succ {ws : List Str} {i : Nat} {x : Str} (h : ws[i]? = some x) : lastW ws (i + 1) = x := by
  show ws.getD i _ = x
  rw [List.getD_eq_getElem?_getD, h]
  rfl
def spRK (K : PySem.W.Frag) : Sp := fun vs H Q _ => ∃ (kk : Addr) (ps : List Addr) (ks : List (Str × Int)), vs = [.ref kk] ∧ KindsAt K H kk ps ks ∧ KsOk ks ∧ ∀ H', Same H H' → Q (.int (ks.length : Nat)) H'
def spRO (K : PySem.W.Frag) : Sp := fun vs H Q _ => ∃ (kk oo : Addr) (ps as : List Addr) (ks : List (Str × Int)) (os : List Opn), vs = [.ref kk, .ref oo] ∧ KindsAt K H kk ps ks ∧ KsOk ks ∧ OpnsAt K H oo as os ∧ OsOk ks os ∧ ∀ H', Same H H' → Q (.int (os.length : Nat)) H'
section
variable {P : Program} {w : World} {K : PySem.W.Frag} {mg : Str → Option Value} {base : Heap}
abbrev nInt : List Str := ["value", "low", "high"]
theorem scInt : FnScope nInt ["value", "low", "high"] (defScope sInt) := ⟨rfl, rfl, rfl, by decide +kernel, rfl, by decide +kernel, by decide +kernel⟩
theorem ok_Int  {f : Addr} {fd : FuncData} (F : Fun K "_is_integer" "_is_integer" sInt f fd) (B : Bi mg) : FnOk P w K mg base CX0 (1) f fd ["value", "low", "high"] (spInt) := by
  refine F.ok scInt (fun vs H Q E h => ?_) (fun cdv A outer s H vs Q E hr h => ?_)
  · obtain ⟨v, lo, hi, rfl, _⟩ := h
    rfl
  · obtain ⟨v, lo, hi, rfl, h1, h2, k⟩ := h
    have line : sizeLine = 16777216 := sizeLine_eq
    refine ⟨_, (pss_one (ps_ret (pe_and (pe_callB call_isi (by rfl) B.isinstance (by decide +kernel) (pa_cons (pv 0) (pa_cons (pe_bltn (v := .ty "int") rfl B.int (by decide +kernel) rfl) pa_nil))) (pe_and (pe_not (pe_callB call_isi (by rfl) B.isinstance (by decide +kernel) (pa_cons (pv 0) (pa_cons (pe_bltn (v := .ty "bool") rfl B.bool (by decide +kernel) rfl) pa_nil)))) (pe_one (pe_chain op_le op_le (pv 1) (pv 0) (pv 2))))))), ?_⟩
    refine ⟨_, rfl, _, _, _, _, true, rfl, .ty "int", .base (.int v), kit_ty rfl, _, rfl, ite2 (fun _ => ?_) (fun z => absurd rfl z)⟩
    refine ⟨_, rfl, _, _, _, _, false, rfl, .ty "bool", .base (.int v), kit_ty (by decide +kernel), _, rfl, _, rfl, ite2 (fun _ => ?_) (fun z => absurd rfl z)⟩
    refine ⟨_, rfl, _, rfl, _, _, rfl, rfl, _, rfl, ite2 (fun _ => ?_) (fun z => absurd (decide_eq_true h1) z)⟩
    refine ⟨_, rfl, _, _, rfl, rfl, ?_⟩
    dsimp only
    rw [decide_eq_true h2]
    exact k
abbrev nRKinds : List Str := ["kinds", "last", "at", "kind", "word", "many"]
theorem scRKinds : FnScope nRKinds ["kinds"] (defScope sRKinds) := ⟨rfl, rfl, rfl, by decide +kernel, rfl, by decide +kernel, by decide +kernel⟩
theorem ok_RKinds  {f : Addr} {fd : FuncData} (F : Fun K "_right_kinds" "_right_kinds" sRKinds f fd) (B : Bi mg) (u_word : Use P w K mg base 1 "is_word" ["thing"] (spIs K isW)) (u_int : Use P w K mg base 1 "_is_integer" ["value", "low", "high"] spInt) (g_MOST_PARTS : ∃ u, mg "MOST_PARTS" = some u ∧ RelV (.int 3) u) : FnOk P w K mg base CX0 (2) f fd ["kinds"] (spRK K) := by
  refine F.ok scRKinds (fun vs H Q E h => ?_) (fun cdv A outer s H vs Q E hr h => ?_)
  · obtain ⟨kk, ps, ks, rfl, _⟩ := h
    rfl
  · obtain ⟨kk, ps, ks, rfl, hk, ok, k⟩ := h
    have line : sizeLine = 16777216 := sizeLine_eq
    refine ⟨_, (pss_cons (ps_set (i := 1) scRKinds.nd rfl (.inl rfl) pe_str)
      (pss_cons (ps_for PassesOwn.never rfl (pi_enumP (by rfl) B.enumerate (pa_cons (pv 0) pa_nil)) (pg_tup rfl (pgs_cons (pg_name (i := 2) scRKinds.nd rfl (Or.inl rfl)) (pgs_cons (pg_name (i := 3) scRKinds.nd rfl (Or.inl rfl)) pgs_nil)))
        (pss_cons (ps_if (PW.pt (pw_or (pt_not (pt_val (pe_callB call_isi (by rfl) B.isinstance (by decide +kernel) (pa_cons (pv 3) (pa_cons (pe_bltn (v := .ty "tuple") rfl B.tuple (by decide +kernel) rfl) pa_nil))))) (pw_or1 (pt_cmpR op_ne (pe_callB call_len_seq (by rfl) B.len PySem.boot_len (pa_cons (pv 3) pa_nil)) pe_int (nomark _))))) (pss_one (ps_ret (pv 2))) pss_nil)
      (pss_cons (ps_asg (pv 3) (pg_tup rfl (pgs_cons (pg_name (i := 4) scRKinds.nd rfl (Or.inl rfl)) (pgs_cons (pg_name (i := 5) scRKinds.nd rfl (Or.inl rfl)) pgs_nil))))
      (pss_cons (ps_if (PW.pt (pw_or (pt_not (pt_val (pe_use u_word (hr.mono (by omega)) rfl (pa_cons (pv 4) pa_nil)))) (pw_or (pt_cmpR op_le_str (pv 4) (pv 1) (nomark _)) (pw_or1 (pt_not (pt_val (pe_use u_int (hr.mono (by omega)) rfl (pa_cons (pv 5) (pa_cons pe_int (pa_cons (C8.pe_gc (v := .int 3) (by rfl) g_MOST_PARTS) pa_nil)))))))))) (pss_one (ps_ret (pv 2))) pss_nil)
      (pss_one (ps_set (i := 1) scRKinds.nd rfl (.inl rfl) (pv 4)))))))
      (pss_one (ps_ret (pe_callB call_len_seq (by rfl) B.len PySem.boot_len (pa_cons (pv 0) pa_nil)))))), ?_⟩
    have hl := hk.len
    have hlen := ok.len
    have wsW : ∀ x ∈ ks.map (·.1), x ∈ WW := fun x hx => by
      obtain ⟨p, hp, rfl⟩ := List.mem_map.mp hx
      exact ok.ww p hp
    refine ⟨_, rfl, kk, _, rfl, hk.at_.sq, ?_⟩
    refine for_it (walk_enumP (K := K) (a := kk) (xs := ps.map V.ref)) (fun i σ H' => ∃ (o2 o3 o4 o5 : Option V), σ = [some (.ref kk), some (.str (lastW (ks.map (·.1)) i)), o2, o3, o4, o5] ∧ Same H H') ⟨_, _, _, _, rfl, same_rfl⟩ (fun i σ H' _ ⟨_, _, _, _, _, z⟩ => sqT_same z hk.at_.sq) ?_ ?_
    · rintro i v σ H1 H2 hi ⟨o2, o3, o4, o5, rfl, s1⟩ ⟨t, y, z, rfl, ht, rfl, hy, hz⟩
      cases hy
      have hz : (ps.map V.ref)[i]? = some z := hz
      rw [List.getElem?_map] at hz
      obtain ⟨a, ha, rfl⟩ := Option.map_eq_some_iff.mp hz
      obtain ⟨p, hp, hq⟩ := paired_at hk.each ha
      have hm := List.mem_of_getElem? hp
      have hw : (ks.map (·.1))[i]? = some p.1 := by rw [List.getElem?_map, hp]; rfl
      have s2 := same_new (o := .tup [.int (i : Int), .ref a]) s1 ht
      refine ⟨t, _, rfl, SqT.of upd_same, rfl, _, _, rfl, _, _, rfl, rfl, ?_⟩
      generalize upd H1 t (.tup [.int (i : Int), .ref a]) = H2 at s2
      have hq2 := sqT_same s2 hq
      refine ⟨_, rfl, _, _, _, _, true, rfl, .ty "tuple", sqT_ty hq2, kit_ty rfl, _, rfl, ite2 (fun z => absurd z (by decide)) (fun _ => ?_)⟩
      refine ⟨_, rfl, a, _, rfl, .inr hq2, rfl, _, rfl, ite2 (fun z => absurd z (by show ¬ (!decide (V.int ((2 : Nat) : Int) = V.int 2)) = true; decide)) (fun _ => ?_)⟩
      refine ⟨_, rfl, a, _, rfl, hq2, rfl, _, _, rfl, _, _, rfl, rfl, ?_⟩
      refine ⟨_, rfl, ?_⟩
      dsimp only [tNil]
      refine ww_is (ok.ww p hm) fun H3 s3 => ⟨_, rfl, ite2 (fun z => absurd z (by decide)) (fun _ => ?_)⟩
      refine ⟨_, rfl, _, rfl, _, _, rfl, rfl, _, rfl, ?_⟩
      rw [last_lt ok.asc wsW hw]
      refine ite2 (fun z => absurd z (by decide)) (fun _ => ?_)
      refine ⟨_, rfl, p.2, 1, 3, rfl, (ok.num p hm).1, (ok.num p hm).2, _, rfl, ite2 (fun z => absurd z (by decide)) (fun _ => ?_)⟩
      refine ⟨_, rfl, some (.int (i : Int)), some (.ref a), some (.str p.1), some (.int p.2), ?_, same_tr s2 s3⟩
      rw [last_succ hw]
      rfl
    · rintro σ H1 ⟨o2, o3, o4, o5, rfl, s1⟩
      refine ⟨_, rfl, kk, _, rfl, .inr (sqT_same s1 hk.at_.sq), ?_⟩
      rw [List.length_map, hl]
      exact k H1 s1
abbrev nOne : List Str := ["counts", "kind"]
theorem scOne : FnScope nOne ["counts", "kind"] (defScope sOne) := ⟨rfl, rfl, rfl, by decide +kernel, rfl, by decide +kernel, by decide +kernel⟩
theorem ok_One  {f : Addr} {fd : FuncData} (F : Fun K "_has_one_part" "_has_one_part" sOne f fd) (B : Bi mg) : FnOk P w K mg base CX0 (1) f fd ["counts", "kind"] (spOne) := by
  refine F.ok scOne (fun vs H Q E h => ?_) (fun cdv A outer s H vs Q E hr h => ?_)
  · obtain ⟨cd, c, ks, rfl, _⟩ := h
    rfl
  · obtain ⟨cd, c, ks, rfl, hc, hm, hw, k⟩ := h
    have line : sizeLine = 16777216 := sizeLine_eq
    refine ⟨_, (pss_one (ps_ret (pe_and (pe_callB call_isi (by rfl) B.isinstance (by decide +kernel) (pa_cons (pv 1) (pa_cons (pe_bltn (v := .ty "str") rfl B.str (by decide +kernel) rfl) pa_nil))) (pe_one (pe_cmpR op_eq (pe_dget2 (hu_of hr) (pv 0) (pv 1) pe_int ⟨rfl, by rfl, by rfl, rfl⟩) pe_int (nomark _)))))), ?_⟩
    obtain ⟨kvs, e, yes, no⟩ := hc
    refine ⟨_, rfl, _, _, _, _, true, rfl, .ty "str", .base (.str c), kit_ty rfl, _, rfl, ite2 (fun _ => ?_) (fun z => absurd rfl z)⟩
    exact ⟨_, rfl, cd, rfl, .inl ⟨kvs, .inl e⟩, _, rfl, some (.int 1), .inl ⟨kvs, .inr c, .inl e, rfl, (yes _ hm).symm⟩, rfl, k _ same_rfl⟩
abbrev nNeedQ : List Str := ["counts", "last", "need"]
theorem scNeedQ : FnScope nNeedQ ["counts", "last", "need"] (defScope sNeedQ) := ⟨rfl, rfl, rfl, by decide +kernel, rfl, by decide +kernel, by decide +kernel⟩
theorem ok_NeedQ  {f : Addr} {fd : FuncData} (F : Fun K "_is_need" "_is_need" sNeedQ f fd) (B : Bi mg) (u_int : Use P w K mg base 1 "_is_integer" ["value", "low", "high"] spInt) (u_one : Use P w K mg base 1 "_has_one_part" ["counts", "kind"] spOne) : FnOk P w K mg base CX0 (2) f fd ["counts", "last", "need"] (spNeedQ K) := by
  refine F.ok scNeedQ (fun vs H Q E h => ?_) (fun cdv A outer s H vs Q E hr h => ?_)
  · obtain ⟨cd, a, m, n, ks, rfl, _⟩ := h
    rfl
  · obtain ⟨cd, a, m, n, ks, rfl, hc, hw, ha, hn, k⟩ := h
    have line : sizeLine = 16777216 := sizeLine_eq
    refine ⟨_, (pss_cons (ps_if (PW.pt (pw_or (pt_not (pt_val (pe_callB call_isi (by rfl) B.isinstance (by decide +kernel) (pa_cons (pv 2) (pa_cons (pe_bltn (v := .ty "tuple") rfl B.tuple (by decide +kernel) rfl) pa_nil))))) (pw_or1 (pt_cmpR op_notIn_seq (pe_callB call_len_seq (by rfl) B.len PySem.boot_len (pa_cons (pv 2) pa_nil)) (pe_tup (pa_cons pe_int (pa_cons pe_int pa_nil))) (by with_unfolding_all rfl))))) (pss_one (ps_ret pe_bl)) pss_nil)
      (pss_cons (ps_if (pt_cmpR op_eq (pe_callB call_len_seq (by rfl) B.len PySem.boot_len (pa_cons (pv 2) pa_nil)) pe_int (nomark _)) (pss_one (ps_ret (pe_and (pe_cmpR op_eq (pe_ix ix_tup (pv 2) pe_int (fun _ _ => rfl)) pe_str (nomark _)) (pe_one (pe_use u_int (hr.mono (by omega)) rfl (pa_cons (pe_ix ix_tup (pv 2) pe_int (fun _ _ => rfl)) (pa_cons pe_int (pa_cons (pv 1) pa_nil)))))))) pss_nil)
      (pss_cons (ps_if (pt_cmpR op_eq (pe_ix ix_tup (pv 2) pe_int (fun _ _ => rfl)) pe_str (nomark _)) (pss_one (ps_ret (pe_and (pe_use u_one (hr.mono (by omega)) rfl (pa_cons (pv 0) (pa_cons (pe_ix ix_tup (pv 2) pe_int (fun _ _ => rfl)) pa_nil))) (pe_one (pe_use u_int (hr.mono (by omega)) rfl (pa_cons (pe_ix ix_tup (pv 2) pe_int (fun _ _ => rfl)) (pa_cons pe_int (pa_cons (pv 1) pa_nil)))))))) pss_nil)
      (pss_one (ps_ret (pe_and (pe_cmpR op_eq (pe_ix ix_tup (pv 2) pe_int (fun _ _ => rfl)) pe_str (nomark _)) (pe_and (pe_use u_int (hr.mono (by omega)) rfl (pa_cons (pe_ix ix_tup (pv 2) pe_int (fun _ _ => rfl)) (pa_cons pe_int (pa_cons (pv 1) pa_nil)))) (pe_one (pe_use u_one (hr.mono (by omega)) rfl (pa_cons (pv 0) (pa_cons (pe_ix ix_tup (pv 2) pe_int (fun _ _ => rfl)) pa_nil))))))))))), ?_⟩
    have k1 : ∀ {p : Addr}, H p = none → Same H (upd H p (.tup [.int 2, .int 3])) := fun hp => same_new same_rfl hp
    refine ⟨_, rfl, _, _, _, _, true, rfl, .ty "tuple", sqT_ty ha, kit_ty rfl, _, rfl, ite2 (fun z => absurd z (by decide)) (fun _ => ?_)⟩
    cases n with
    | part j =>
      obtain ⟨j0, j1⟩ := hn
      refine ⟨_, rfl, a, _, rfl, .inr ha, (by show 2 ≤ sizeLine; rw [sizeLine_eq]; decide), fun p hp => ⟨p, _, rfl, .inr (SqT.of upd_same), rfl, rfl, _, rfl, ite2 (fun z => absurd z (by show ¬ (!inV (.int ((2 : Nat) : Int)) [.int 2, .int 3]) = true; decide)) (fun _ => ?_)⟩⟩
      have ha1 := sqT_same (k1 hp) ha
      refine ⟨_, rfl, a, _, rfl, .inr ha1, rfl, _, rfl, ite2 (fun _ => ?_) (fun z => absurd (by show decide (V.int ((2 : Nat) : Int) = V.int 2) = true; decide) z)⟩
      refine ⟨_, rfl, a, _, _, _, rfl, rfl, ha1, rfl, rfl, _, rfl, ite2 (fun _ => ?_) (fun z => absurd (by decide) z)⟩
      exact ⟨_, rfl, a, _, _, _, rfl, rfl, ha1, rfl, _, rfl, j, 0, m - 1, rfl, j0, by omega, k _ (k1 hp)⟩
    | around c j =>
      obtain ⟨c1, j0, j1⟩ := hn
      refine ⟨_, rfl, a, _, rfl, .inr ha, (by show 2 ≤ sizeLine; rw [sizeLine_eq]; decide), fun p hp => ⟨p, _, rfl, .inr (SqT.of upd_same), rfl, rfl, _, rfl, ite2 (fun z => absurd z (by show ¬ (!inV (.int ((3 : Nat) : Int)) [.int 2, .int 3]) = true; decide)) (fun _ => ?_)⟩⟩
      have ha1 := sqT_same (k1 hp) ha
      refine ⟨_, rfl, a, _, rfl, .inr ha1, rfl, _, rfl, ite2 (fun z => absurd z (by show ¬ decide (V.int ((3 : Nat) : Int) = V.int 2) = true; decide)) (fun _ => ?_)⟩
      refine ⟨_, rfl, a, _, _, _, rfl, rfl, ha1, rfl, rfl, _, rfl, ite2 (fun _ => ?_) (fun z => absurd (by decide) z)⟩
      refine ⟨_, rfl, _, rfl, a, _, _, _, rfl, rfl, ha1, rfl, cd, c, ks, rfl, hc.same (k1 hp), c1, hw _ c1, fun H2 k2 => ⟨_, rfl, ite2 (fun _ => ?_) (fun z => absurd rfl z)⟩⟩
      exact ⟨_, rfl, a, _, _, _, rfl, rfl, sqT_same k2 ha1, rfl, _, rfl, j, 0, m - 1, rfl, j0, by omega, k _ (same_tr (k1 hp) k2)⟩
    | inside j c =>
      obtain ⟨c1, j0, j1⟩ := hn
      refine ⟨_, rfl, a, _, rfl, .inr ha, (by show 2 ≤ sizeLine; rw [sizeLine_eq]; decide), fun p hp => ⟨p, _, rfl, .inr (SqT.of upd_same), rfl, rfl, _, rfl, ite2 (fun z => absurd z (by show ¬ (!inV (.int ((3 : Nat) : Int)) [.int 2, .int 3]) = true; decide)) (fun _ => ?_)⟩⟩
      have ha1 := sqT_same (k1 hp) ha
      refine ⟨_, rfl, a, _, rfl, .inr ha1, rfl, _, rfl, ite2 (fun z => absurd z (by show ¬ decide (V.int ((3 : Nat) : Int) = V.int 2) = true; decide)) (fun _ => ?_)⟩
      refine ⟨_, rfl, a, _, _, _, rfl, rfl, ha1, rfl, rfl, _, rfl, ite2 (fun z => absurd z (by decide)) (fun _ => ?_)⟩
      refine ⟨_, rfl, a, _, _, _, rfl, rfl, ha1, rfl, rfl, _, rfl, ite2 (fun _ => ?_) (fun z => absurd (by decide) z)⟩
      refine ⟨_, rfl, a, _, _, _, rfl, rfl, ha1, rfl, _, rfl, j, 0, m - 1, rfl, j0, by omega, _, rfl, ite2 (fun _ => ?_) (fun z => absurd rfl z)⟩
      exact ⟨_, rfl, _, rfl, a, _, _, _, rfl, rfl, ha1, rfl, cd, c, ks, rfl, hc.same (k1 hp), c1, hw _ c1, fun H2 k2 => k _ (same_tr (k1 hp) k2)⟩
abbrev nOpenQ : List Str := ["counts", "opening", "word", "kind", "given", "needs", "last", "need"]
theorem scOpenQ : FnScope nOpenQ ["counts", "opening"] (defScope sOpenQ) := ⟨rfl, rfl, rfl, by decide +kernel, rfl, by decide +kernel, by decide +kernel⟩
theorem ok_OpenQ  {f : Addr} {fd : FuncData} (F : Fun K "_is_opening" "_is_opening" sOpenQ f fd) (B : Bi mg) (u_word : Use P w K mg base 1 "is_word" ["thing"] (spIs K isW)) (u_int : Use P w K mg base 1 "_is_integer" ["value", "low", "high"] spInt) (u_need : Use P w K mg base 2 "_is_need" ["counts", "last", "need"] (spNeedQ K)) (g_MOST_NEEDS : ∃ u, mg "MOST_NEEDS" = some u ∧ RelV (.int 2) u) : FnOk P w K mg base CX0 (3) f fd ["counts", "opening"] (spOpenQ K) := by
  refine F.ok scOpenQ (fun vs H Q E h => ?_) (fun cdv A outer s H vs Q E hr h => ?_)
  · obtain ⟨cd, a, o, ks, rfl, _⟩ := h
    rfl
  · obtain ⟨cd, a, o, ks, rfl, hc, hw, hoA, ok, k⟩ := h
    have line : sizeLine = 16777216 := sizeLine_eq
    refine ⟨_, (pss_cons (ps_if (PW.pt (pw_or (pt_not (pt_val (pe_callB call_isi (by rfl) B.isinstance (by decide +kernel) (pa_cons (pv 1) (pa_cons (pe_bltn (v := .ty "tuple") rfl B.tuple (by decide +kernel) rfl) pa_nil))))) (pw_or1 (pt_cmpR op_ne (pe_callB call_len_seq (by rfl) B.len PySem.boot_len (pa_cons (pv 1) pa_nil)) pe_int (nomark _))))) (pss_one (ps_ret pe_bl)) pss_nil)
      (pss_cons (ps_asg (pv 1) (pg_tup rfl (pgs_cons (pg_name (i := 2) scOpenQ.nd rfl (Or.inl rfl)) (pgs_cons (pg_name (i := 3) scOpenQ.nd rfl (Or.inl rfl)) (pgs_cons (pg_name (i := 4) scOpenQ.nd rfl (Or.inl rfl)) (pgs_cons (pg_name (i := 5) scOpenQ.nd rfl (Or.inl rfl)) pgs_nil))))))
      (pss_cons (ps_if (PW.pt (pw_or (pt_not (pt_val (pe_use u_word (hr.mono (by omega)) rfl (pa_cons (pv 2) pa_nil)))) (pw_or (pt_cmp (pc_din (hu_of hr) (pv 2) (pv 0))) (pw_or (pt_not (pt_val (pe_callB call_isi (by rfl) B.isinstance (by decide +kernel) (pa_cons (pv 3) (pa_cons (pe_bltn (v := .ty "str") rfl B.str (by decide +kernel) rfl) pa_nil))))) (pw_or1 (pt_cmp (pc_dnotin (hu_of hr) (pv 3) (pv 0)))))))) (pss_one (ps_ret pe_bl)) pss_nil)
      (pss_cons (ps_set (i := 6) scOpenQ.nd rfl (.inl rfl) (pe_op op_sub (pe_dget (hu_of hr) (pv 0) (pv 3) (fun _ _ => rfl)) pe_int))
      (pss_cons (ps_if (PW.pt (pw_or (pt_not (pt_val (pe_use u_int (hr.mono (by omega)) rfl (pa_cons (pv 4) (pa_cons pe_int (pa_cons (pv 6) pa_nil)))))) (pw_or (pt_not (pt_val (pe_callB call_isi (by rfl) B.isinstance (by decide +kernel) (pa_cons (pv 5) (pa_cons (pe_bltn (v := .ty "tuple") rfl B.tuple (by decide +kernel) rfl) pa_nil))))) (pw_or1 (pt_cmpR op_gt (pe_callB call_len_seq (by rfl) B.len PySem.boot_len (pa_cons (pv 5) pa_nil)) (C8.pe_gc (v := .int 2) (by rfl) g_MOST_NEEDS) (nomark _)))))) (pss_one (ps_ret pe_bl)) pss_nil)
      (pss_cons (ps_for PassesOwn.never rfl (pi_tup (pv 5)) (pg_name (i := 7) scOpenQ.nd rfl (Or.inl rfl))
        (pss_one (ps_if (pt_not (pt_val (pe_use u_need (hr.mono (by omega)) rfl (pa_cons (pv 0) (pa_cons (pv 6) (pa_cons (pv 7) pa_nil)))))) (pss_one (ps_ret pe_bl)) pss_nil)))
      (pss_one (ps_ret pe_bl)))))))), ?_⟩
    obtain ⟨b, as, ha, hb, hp⟩ := id hoA
    obtain ⟨m, hm, g0, g1, nl, hn⟩ := ok.ex
    refine ⟨_, rfl, _, _, _, _, true, rfl, .ty "tuple", sqT_ty ha, kit_ty rfl, _, rfl, ite2 (fun z => absurd z (by decide)) (fun _ => ?_)⟩
    refine ⟨_, rfl, a, _, rfl, .inr ha, rfl, _, rfl, ite2 (fun z => absurd z (by show ¬ (!decide (V.int ((4 : Nat) : Int) = V.int 4)) = true; decide)) (fun _ => ?_)⟩
    refine ⟨_, rfl, a, _, rfl, ha, rfl, _, _, rfl, _, _, rfl, _, _, rfl, _, _, rfl, rfl, ?_⟩
    refine ⟨_, rfl, ?_⟩
    dsimp only [tNil]
    refine ww_is ok.ww fun H1 k1 => ⟨_, rfl, ite2 (fun z => absurd z (by decide)) (fun _ => ?_)⟩
    obtain ⟨kvs, e1, yes, no⟩ := hc.same k1
    refine ⟨_, rfl, _, rfl, cd, none, rfl, .inl ⟨kvs, .inr o.w, .inl e1, rfl, (no _ ok.out).symm⟩, _, rfl, ite2 (fun z => absurd z (by decide)) (fun _ => ?_)⟩
    refine ⟨_, rfl, _, _, _, _, true, rfl, .ty "str", .base (.str o.k), kit_ty rfl, _, rfl, ite2 (fun z => absurd z (by decide)) (fun _ => ?_)⟩
    have hkv : DGet H1 cd (.str o.k) (some (.int m)) := .inl ⟨kvs, .inr o.k, .inl e1, rfl, (yes _ hm).symm⟩
    refine ⟨_, rfl, _, rfl, cd, _, rfl, hkv, _, rfl, ite2 (fun z => absurd z (by show ¬ (!true) = true; decide)) (fun _ => ?_)⟩
    refine ⟨_, rfl, _, rfl, cd, _, rfl, hkv, _, _, rfl, rfl, ?_⟩
    have hb2 := sqT_same k1 hb
    have hpl := hp.length
    refine ⟨_, rfl, _, rfl, o.g, 0, m - 1, rfl, g0, by omega, _, rfl, ite2 (fun z => absurd z (by decide)) (fun _ => ?_)⟩
    refine ⟨_, rfl, _, _, _, _, true, rfl, .ty "tuple", sqT_ty hb2, kit_ty rfl, _, rfl, ite2 (fun z => absurd z (by decide)) (fun _ => ?_)⟩
    refine ⟨_, rfl, b, _, rfl, .inr hb2, _, _, rfl, rfl, _, rfl, ite2 (fun z => ?_) (fun _ => ?_)⟩
    · have z := of_decide_eq_true z
      rw [List.length_map] at z
      omega
    refine ⟨_, rfl, b, rfl, ⟨_, hb2⟩, ?_⟩
    refine for_tup (K := K) (a := b) (xs := as.map V.ref) (fun i σ H' => ∃ o7 : Option V, σ = [some (.ref cd), some (.ref a), some (.str o.w), some (.str o.k), some (.int o.g), some (.ref b), some (.int (m - 1)), o7] ∧ Same H1 H') ⟨_, rfl, same_rfl⟩ (fun i σ H' _ ⟨_, _, z⟩ => sqT_same z hb2) ?_ ?_
    · rintro i y σ H3 hi ⟨o7, rfl, s3⟩
      rw [List.getElem?_map] at hi
      obtain ⟨x, hx, rfl⟩ := Option.map_eq_some_iff.mp hi
      obtain ⟨n, hnn, hq⟩ := paired_at hp hx
      refine ⟨_, rfl, _, rfl, _, rfl, cd, x, m, n, ks, rfl, hc.same (same_tr k1 s3), hw, sqT_same (same_tr k1 s3) hq, hn n (List.mem_of_getElem? hnn), fun H4 s4 => ⟨_, rfl, ite2 (fun z => absurd z (by decide)) (fun _ => ?_)⟩⟩
      exact ⟨_, rfl, same_tr s3 s4⟩
    · rintro σ H3 ⟨o7, rfl, s3⟩
      exact k _ (same_tr k1 s3)
abbrev nROpens : List Str := ["kinds", "openings", "counts", "last", "at", "opening"]
theorem scROpens : FnScope nROpens ["kinds", "openings"] (defScope sROpens) := ⟨rfl, rfl, rfl, by decide +kernel, rfl, by decide +kernel, by decide +kernel⟩
theorem ok_ROpens  {f : Addr} {fd : FuncData} (F : Fun K "_right_openings" "_right_openings" sROpens f fd) (B : Bi mg) (u_open : Use P w K mg base 3 "_is_opening" ["counts", "opening"] (spOpenQ K)) : FnOk P w K mg base CX0 (4) f fd ["kinds", "openings"] (spRO K) := by
  refine F.ok scROpens (fun vs H Q E h => ?_) (fun cdv A outer s H vs Q E hr h => ?_)
  · obtain ⟨kk, oo, ps, as, ks, os, rfl, _⟩ := h
    rfl
  · obtain ⟨kk, oo, ps, as, ks, os, rfl, hk, kok, hO, ok, k⟩ := h
    have line : sizeLine = 16777216 := sizeLine_eq
    refine ⟨_, (pss_cons (ps_set (i := 2) scROpens.nd rfl (.inl rfl) (pe_callTy (call_dictPT rfl) (by rfl) B.dict (by decide +kernel) (pa_cons (pv 0) pa_nil)))
      (pss_cons (ps_set (i := 3) scROpens.nd rfl (.inl rfl) pe_str)
      (pss_cons (ps_for PassesOwn.never rfl (pi_enumP (by rfl) B.enumerate (pa_cons (pv 1) pa_nil)) (pg_tup rfl (pgs_cons (pg_name (i := 4) scROpens.nd rfl (Or.inl rfl)) (pgs_cons (pg_name (i := 5) scROpens.nd rfl (Or.inl rfl)) pgs_nil)))
        (pss_cons (ps_if (PW.pt (pw_or (pt_not (pt_val (pe_use u_open (hr.mono (by omega)) rfl (pa_cons (pv 2) (pa_cons (pv 5) pa_nil))))) (pw_or1 (pt_cmpR op_le_str (pe_ix ix_tup (pv 5) pe_int (fun _ _ => rfl)) (pv 3) (nomark _))))) (pss_one (ps_ret (pv 4))) pss_nil)
      (pss_one (ps_set (i := 3) scROpens.nd rfl (.inl rfl) (pe_ix ix_tup (pv 5) pe_int (fun _ _ => rfl))))))
      (pss_one (ps_ret (pe_callB call_len_seq (by rfl) B.len PySem.boot_len (pa_cons (pv 1) pa_nil))))))), ?_⟩
    have hl := hO.each.length
    have hlen := ok.len
    have wsW : ∀ x ∈ os.map (·.w), x ∈ WW := fun x hx => by
      obtain ⟨o, ho, rfl⟩ := List.mem_map.mp hx
      exact (ok.each o ho).ww
    refine ⟨_, rfl, kk, ps, _, rfl, hk.at_, paired_kv hk.each, fun p hp => ?_⟩
    have hc0 : Cnt (upd H p (.dK (mergeK [] (ks.map kvOf)))) p ks := cnt_new kok.nd
    first | generalize hGp : upd _ p _ = H0 | (show Ends.nx _ _ (upd _ p _); generalize hGp : upd _ p _ = H0)
    have s0 := same_of_upd hp hGp
    have e0 := at_of_upd hGp
    rw [hGp] at hc0
    have hO0 := hO.same s0
    refine ⟨_, rfl, oo, _, rfl, hO0.at_, ?_⟩
    refine for_it (walk_enumP (K := K) (a := oo) (xs := as.map V.ref)) (fun i σ H' => ∃ (o4 o5 : Option V), σ = [some (.ref kk), some (.ref oo), some (.ref p), some (.str (lastW (os.map (·.w)) i)), o4, o5] ∧ Same H0 H') ⟨_, _, rfl, same_rfl⟩ (fun i σ H' _ ⟨_, _, _, z⟩ => sqT_same z hO0.at_) ?_ ?_
    · rintro i v σ H1 H2 hi ⟨o4, o5, rfl, s1⟩ ⟨t, y, z, rfl, ht, rfl, hy, hz⟩
      cases hy
      have hz : (as.map V.ref)[i]? = some z := hz
      rw [List.getElem?_map] at hz
      obtain ⟨a, ha, rfl⟩ := Option.map_eq_some_iff.mp hz
      obtain ⟨o, ho, hq⟩ := paired_at hO0.each ha
      have hm := List.mem_of_getElem? ho
      have hw : (os.map (·.w))[i]? = some o.w := by rw [List.getElem?_map, ho]; rfl
      have s2 := same_new (o := .tup [.int (i : Int), .ref a]) s1 ht
      refine ⟨t, _, rfl, SqT.of upd_same, rfl, _, _, rfl, _, _, rfl, rfl, ?_⟩
      generalize upd H1 t (.tup [.int (i : Int), .ref a]) = H2 at s2
      have hq2 := OpnAt.same s2 hq
      refine ⟨_, rfl, _, rfl, p, a, o, ks, rfl, hc0.same s2, kok.ww, hq2, ok.each o hm, fun H3 s3 => ⟨_, rfl, ite2 (fun z => absurd z (by decide)) (fun _ => ?_)⟩⟩
      obtain ⟨b, bs, hq3, _⟩ := OpnAt.same s3 hq2
      refine ⟨_, rfl, a, _, _, _, rfl, rfl, hq3, rfl, _, rfl, _, _, rfl, rfl, _, rfl, ?_⟩
      rw [last_lt ok.asc wsW hw]
      refine ite2 (fun z => absurd z (by decide)) (fun _ => ?_)
      refine ⟨_, rfl, a, _, _, _, rfl, rfl, hq3, rfl, some (.int (i : Int)), some (.ref a), ?_, same_tr s2 s3⟩
      rw [last_succ hw]
      rfl
    · rintro σ H1 ⟨o4, o5, rfl, s1⟩
      refine ⟨_, rfl, oo, _, rfl, .inr (sqT_same s1 hO0.at_), ?_⟩
      rw [List.length_map, hl]
      exact k H1 (same_tr s0 s1)
abbrev nBInit : List Str := ["self", "kinds", "openings"]
theorem scBInit : FnScope nBInit ["self", "kinds", "openings"] (defScope sBInit) := ⟨rfl, rfl, rfl, by decide +kernel, rfl, by decide +kernel, by decide +kernel⟩
theorem ok_BInit {C : Addr} (cl : Cls K C) (nK : NoAttr K C "kinds") (nO : NoAttr K C "openings") {f : Addr} {fd : FuncData} (F : Fun K "__init__" "Book.__init__" sBInit f fd) (B : Bi mg) (u_rkinds : Use P w K mg base 2 "_right_kinds" ["kinds"] (spRK K)) (u_ropens : Use P w K mg base 4 "_right_openings" ["kinds", "openings"] (spRO K)) : FnOk P w K mg base CX0 (5) f fd ["self", "kinds", "openings"] (spInit K C) := by
  refine F.ok scBInit (fun vs H Q E h => ?_) (fun cdv A outer s H vs Q E hr h => ?_)
  · obtain ⟨x, dx, kk, oo, ps, as, ks, os, rfl, _⟩ := h
    rfl
  · obtain ⟨x, dx, kk, oo, ps, as, ks, os, rfl, hx, hk, kok, ho, ook, k⟩ := h
    have line : sizeLine = 16777216 := sizeLine_eq
    refine ⟨_, (pss_cons (ps_if (PW.pt (pw_or (pt_not (pt_val (pe_callB call_isi (by rfl) B.isinstance (by decide +kernel) (pa_cons (pv 1) (pa_cons (pe_bltn (v := .ty "tuple") rfl B.tuple (by decide +kernel) rfl) pa_nil))))) (pw_or (pt_cmpR op_eq (pe_callB call_len_seq (by rfl) B.len PySem.boot_len (pa_cons (pv 1) pa_nil)) pe_int (nomark _)) (pw_or1 (pt_cmpR op_lt (pe_use u_rkinds (hr.mono (by omega)) rfl (pa_cons (pv 1) pa_nil)) (pe_callB call_len_seq (by rfl) B.len PySem.boot_len (pa_cons (pv 1) pa_nil)) (nomark _)))))) (pss_one ps_dead) pss_nil)
      (pss_cons (ps_if (PW.pt (pw_or (pt_not (pt_val (pe_callB call_isi (by rfl) B.isinstance (by decide +kernel) (pa_cons (pv 2) (pa_cons (pe_bltn (v := .ty "tuple") rfl B.tuple (by decide +kernel) rfl) pa_nil))))) (pw_or1 (pt_cmpR op_lt (pe_use u_ropens (hr.mono (by omega)) rfl (pa_cons (pv 1) (pa_cons (pv 2) pa_nil))) (pe_callB call_len_seq (by rfl) B.len PySem.boot_len (pa_cons (pv 2) pa_nil)) (nomark _))))) (pss_one ps_dead) pss_nil)
      (pss_cons (ps_fld (pv 0) (pv 1) rfl)
      (pss_one (ps_fld (pv 0) (pv 2) rfl))))), ?_⟩
    have hl := hk.len
    have hlen := kok.len
    have ol := ho.each.length
    have h0 : ks.length ≠ 0 := fun z => kok.ne (List.eq_nil_of_length_eq_zero z)
    refine ⟨_, rfl, _, _, _, _, true, rfl, .ty "tuple", sqT_ty hk.at_.sq, kit_ty rfl, _, rfl, ite2 (fun z => absurd z (by decide)) (fun _ => ?_)⟩
    refine ⟨_, rfl, kk, _, rfl, .inr hk.at_.sq, rfl, _, rfl, ite2 (fun z => ?_) (fun _ => ?_)⟩
    · have z := of_decide_eq_true z
      injection z with z
      rw [List.length_map, hl] at z
      omega
    refine ⟨_, rfl, kk, ps, ks, rfl, hk, kok, fun H1 k1 => ?_⟩
    have hk1 := hk.same k1
    refine ⟨_, rfl, kk, _, rfl, .inr hk1.at_.sq, _, _, rfl, rfl, _, rfl, ite2 (fun z => ?_) (fun _ => ?_)⟩
    · have z := of_decide_eq_true z
      rw [List.length_map] at z
      omega
    have ho1 := ho.same k1
    refine ⟨_, rfl, _, _, _, _, true, rfl, .ty "tuple", sqT_ty ho1.at_, kit_ty rfl, _, rfl, ite2 (fun z => absurd z (by decide)) (fun _ => ?_)⟩
    refine ⟨_, rfl, _, rfl, kk, oo, ps, as, ks, os, rfl, hk1, kok, ho1, ook, fun H2 k2 => ?_⟩
    have k02 := same_tr k1 k2
    have ho2 := ho.same k02
    refine ⟨_, rfl, oo, _, rfl, .inr ho2.at_, _, _, rfl, rfl, _, rfl, ite2 (fun z => ?_) (fun _ => ?_)⟩
    · have z := of_decide_eq_true z
      rw [List.length_map] at z
      omega
    have hx2 := k02 _ _ hx
    refine ⟨_, rfl, _, rfl, x, C, dx, [], rfl, hx2, cl, nK, (by show 0 < 1000; decide), _, rfl, _, rfl, x, C, dx, _, rfl, upd_same, cl, nO, (by show 1 < 1000; decide), ?_⟩
    rw [upd_upd]
    exact k _ (fun b o hb e => (upd_ne hb).trans (k02 _ _ e)) upd_same
end
end K09


set_option Elab.async false
set_option linter.all false
set_option maxRecDepth 100000
set_option maxHeartbeats 4000000
/-! Text, size, pieces, names and words of a thing; other things in it. -/
namespace K09
open PySem PySem.Spec PyProof.Rows L2 Mine TL StX
abbrev sExch : Stmt := top 17
/-- a thing of a moderate size -/
structure Small (d : PyData) : Prop where
  w : thW d = true
  sz : sz d ≤ 4000
  len : (txt d).length ≤ 1000000
theorem Small.thing {d : PyData} (h : Small d) : thing d = true := thW_thing _ d (Nat.le_refl _) h.w
theorem one_lot (d : PyData) : [d].flatMap lot = lot d := by simp
theorem Small.fits {d : PyData} (h : Small d) {Q : List PyData} (b : Bfs [d] Q) : Fits [d] Q := by
  have mem : ∀ p ∈ Q, p ∈ lot d := fun p hp => by
    have := b.perm.mem_iff.mp hp
    rwa [one_lot] at this
  refine ⟨b, fun p hp => lot_thing _ d (Nat.le_refl _) h.thing p (mem p hp), ?_, fun p hp => Nat.le_trans (lot_len _ d (Nat.le_refl _) h.thing p (mem p hp)) h.len⟩
  rw [b.len, one_lot]
  exact Nat.le_trans h.sz (by decide)
theorem bfs_head {d : PyData} {Q : List PyData} (b : Bfs [d] Q) : ∃ R, Q = d :: R := ⟨Q.flatMap kids, b.eq⟩
structure TxtOf (K : PySem.W.Frag) (mg : Str → Option Value) (fP fT : Addr) : Prop where
  gP : mg "all_pieces" = some (.ref fP)
  kP : PySem.W.keepIn K (.ref fP) = true
  gT : mg "all_texts" = some (.ref fT)
  kT : PySem.W.keepIn K (.ref fT) = true
  len : mg "len" = none
def spTextOf (K : PySem.W.Frag) : Sp := fun vs H Q _ => ∃ v d, vs = [v] ∧ Dp K H v d ∧ Small d ∧ ∀ H', Same H H' → Q (.str (txt d)) H'
def spSizeOf (K : PySem.W.Frag) : Sp := fun vs H Q _ => ∃ v d, vs = [v] ∧ Dp K H v d ∧ Small d ∧ ∀ H', Same H H' → Q (.int (sz d : Nat)) H'
def spPiecesOf (K : PySem.W.Frag) : Sp := fun vs H Q _ => ∃ v d, vs = [v] ∧ Dp K H v d ∧ Small d ∧
  ∀ (q : Addr) (ws : List V) (ds : List PyData) (H' : Hp), Same H H' → H q = none → H' q = some (.tup ws) → DpAll K H' ws ds → AscOf ds (lot d) → Q (.ref q) H'
section
variable {P : Program} {w : World} {K : PySem.W.Frag} {mg : Str → Option Value} {base : Heap}
theorem none_same {H H' : Hp} {q : Addr} (s : Same H H') (h : H' q = none) : H q = none := by
  cases e : H q with
  | none => rfl
  | some o =>
    have := s _ _ e
    rw [h] at this
    cases this
end
end K09

set_option Elab.async false
set_option linter.all false
set_option maxRecDepth 100000
set_option maxHeartbeats 4000000
/-! Names and words of a thing. -/
namespace K09
open PySem PySem.Spec PyProof.Rows L2 Mine TL
/-- those of the texts that stand in d and are so -/
structure Those (f : Str → Bool) (d : PyData) (ys : List Str) : Prop where
  asc : ys.Pairwise LtS
  mem : ∀ x, x ∈ ys ↔ PyData.str x ∈ lot d ∧ f x = true
def spThose (K : PySem.W.Frag) (f : Str → Bool) : Sp := fun vs H Q _ => ∃ v d, vs = [v] ∧ Dp K H v d ∧ Small d ∧ ∀ (q : Addr) (ys : List Str) (H' : Hp), Same H H' → H q = none → H' q = some (.tup (ys.map V.str)) → Those f d ys → Q (.ref q) H'
end K09

set_option Elab.async false
set_option linter.all false
set_option maxRecDepth 100000
set_option maxHeartbeats 4000000
/-! Things in the places of names. -/
namespace K09
open PySem PySem.Spec PyProof.Rows L2 Mine TL StX
/-- what a table tells of texts -/
def Tells (K : PySem.W.Frag) (H : Hp) (kvs : List (Key × V)) (g : Str → PyData) : Prop := ∀ x, (valV kvs (Sum.inr x) = none ∧ g x = .str x) ∨ ∃ v, valV kvs (Sum.inr x) = some v ∧ Dp K H v (g x)
def spExch (K : PySem.W.Frag) : Sp := fun vs H Q _ => ∃ (v : V) (d : PyData) (o : Addr) (kvs : List (Key × V)) (g : Str → PyData), vs = [v, .ref o] ∧ Dp K H v d ∧ Small d ∧ H o = some (.dK kvs) ∧ Tells K H kvs g ∧ (∀ x, thing (g x) = true) ∧
  ∀ (u : V) (H' : Hp), Same H H' → Dp K H' u (put g d) → Q u H'
structure TxtEx (K : PySem.W.Frag) (mg : Str → Option Value) (fP : Addr) : Prop extends TxtTx mg where
  gP : mg "all_pieces" = some (.ref fP)
  kP : PySem.W.keepIn K (.ref fP) = true
abbrev nExch : List Str := ["thing", "others", "pieces", "made", "end", "at", "piece", "begin"]
theorem scExch : FnScope nExch ["thing", "others"] (defScope sExch) := ⟨rfl, rfl, rfl, by decide +kernel, rfl, by decide +kernel, by decide +kernel⟩
theorem dps_drop {K : PySem.W.Frag} {H : Hp} : ∀ {vs : List V} {ds : List PyData} (n : Nat), DpAll K H vs ds → DpAll K H (vs.drop n) (ds.drop n)
  | _, _, 0, h => by rw [List.drop_zero, List.drop_zero]; exact h
  | _, _, n + 1, .nil => by rw [List.drop_nil, List.drop_nil]; exact .nil
  | _, _, n + 1, .cons _ r => by rw [List.drop_succ_cons, List.drop_succ_cons]; exact dps_drop n r
theorem dps_take {K : PySem.W.Frag} {H : Hp} : ∀ {vs : List V} {ds : List PyData} (n : Nat), DpAll K H vs ds → DpAll K H (vs.take n) (ds.take n)
  | _, _, 0, _ => by rw [List.take_zero, List.take_zero]; exact .nil
  | _, _, n + 1, .nil => by rw [List.take_nil, List.take_nil]; exact .nil
  | _, _, n + 1, .cons h r => by rw [List.take_succ_cons, List.take_succ_cons]; exact .cons h (dps_take n r)
section
variable {P : Program} {w : World} {K : PySem.W.Frag} {mg : Str → Option Value} {base : Heap}
theorem ok_exch {f fP : Addr} {fd dP : FuncData} (F : Fun K "exchanged" "exchanged" sExch f fd) (T : TxtEx K mg fP) (GP : FnOk P w K mg base CX0 1 fP dP ["things"] (spPieces K)) (bP : Binds K dP ["things"] []) :
    FnOk P w K mg base CX0 2 f fd ["thing", "others"] (spExch K) := by
  refine F.ok scExch (fun vs H Q E h => ?_) (fun cdv A outer s H vs Q E hr h => ?_)
  · obtain ⟨_, _, _, _, _, rfl, _⟩ := h
    rfl
  · obtain ⟨v, d, o, kvs, g, rfl, hd, sm, ho, tells, hg, k⟩ := h
    have hu := hu_of hr
    refine ⟨_, pss_cons (ps_set (i := 2) scExch.nd rfl (.inl rfl) (pe_call GP hr rfl T.gP T.kP bP .nil pass0 (pa_cons (pe_lst (pa_cons (pv 0) pa_nil)) pa_nil)))
      (pss_cons (ps_set (i := 3) scExch.nd rfl (.inl rfl) (pe_callTy call_list_of (by rfl) T.list (by decide +kernel) (pa_cons (pv 2) pa_nil)))
      (pss_cons (ps_set (i := 4) scExch.nd rfl (.inl rfl) (pe_callB call_len_seq (by rfl) T.len PySem.boot_len (pa_cons (pv 2) pa_nil)))
      (pss_cons (ps_for PassesOwn.never rfl (pi_revR (by rfl) T.reversed (prg_1 (by rfl) T.range (pe_callB call_len_seq (by rfl) T.len PySem.boot_len (pa_cons (pv 2) pa_nil)))) (pg_name (i := 5) scExch.nd rfl (.inl rfl))
        (pss_cons (ps_set (i := 6) scExch.nd rfl (.inl rfl) (pe_ix ix_list (pv 2) (pv 5) (fun _ _ => rfl)))
        (pss_one (ps_if (pt_val (pe_callB call_isi (by rfl) T.isi (by decide +kernel) (pa_cons (pv 6) (pa_cons (pe_bltn (v := .ty "tuple") rfl T.tuple (by decide +kernel) rfl) pa_nil))))
          (pss_cons (ps_set (i := 7) scExch.nd rfl (.inl rfl) (pe_op op_add (pe_op op_sub (pv 4) (pe_callB call_len_seq (by rfl) T.len PySem.boot_len (pa_cons (pv 6) pa_nil))) pe_int))
          (pss_cons (ps_asg (pe_tup (pa_cons (pe_ix ix_tup (pv 6) pe_int (fun _ _ => rfl)) (pa_star (pe_slice sl_list (pv 3) (po_some (pv 7)) (po_some (pv 4))) pa_nil))) (pg_sub (pv 3) (pv 5) set_list))
          (pss_one (ps_set (i := 4) scExch.nd rfl (.inl rfl) (pv 7)))))
          (pss_one (ps_asg (pe_dget2 hu (pv 1) (pv 6) (pv 6) ⟨rfl, by rfl, by rfl, rfl⟩) (pg_sub (pv 3) (pv 5) set_list)))))))
      (pss_one (ps_ret (pe_ix ix_list (pv 3) pe_int (fun _ _ => rfl))))))), ?_⟩
    refine ⟨_, rfl, (by show 1 ≤ sizeLine; rw [sizeLine_eq]; decide), fun l hl => ?_⟩
    have dl : DpAll K (upd H l (.lst [v])) [v] [d] := .cons (th_kt (kt_new hl) d v sm.thing hd) .nil
    refine ⟨l, [v], [d], rfl, .inl (SqL.of upd_same), dl, fun t ht => by rw [List.mem_singleton.mp ht]; exact sm.thing, by rw [one_lot]; exact Nat.le_trans sm.sz (by decide), fun p Ps us H1 s1 np ep dp bf => ?_⟩
    have fit := sm.fits bf
    have s01 := same_tr (same_new (o := .lst [v]) same_rfl hl) s1
    have ul := dps_len dp
    have line : sizeLine = 16777216 := sizeLine_eq
    have many := fit.many
    have all := bf.all
    have pth : ∀ z ∈ Ps, thing (put g z) = true := fun z hz => put_thing hg _ z (Nat.le_refl _) (fit.things z hz)
    refine ⟨_, rfl, p, _, rfl, .inl (SqL.of ep), fun q hq => ?_⟩
    have s2 : Same H1 (upd H1 q (.lst us)) := same_new same_rfl hq
    have eq0 : upd H1 q (.lst us) q = some (.lst us) := upd_same
    show Ends.nx _ _ (upd H1 q (.lst us))
    generalize upd H1 q (.lst us) = H2 at s2 eq0
    refine ⟨_, rfl, p, _, rfl, .inl (SqL.of (s2 _ _ ep)), _, rfl, p, _, rfl, .inl (SqL.of (s2 _ _ ep)), _, rfl, by decide, by decide, by omega, by omega, ?_⟩
    refine for_rangeC (n := ((us.length : Int) - 0).toNat) (fun i σ H' => ∃ (o5 o6 o7 : Option V) (rs : List V), σ = [some v, some (.ref o), some (.ref p), some (.ref q), some (.int (endAt [d] Ps (us.length - i) : Nat)), o5, o6, o7] ∧ H' q = some (.lst (us.take (us.length - i) ++ rs)) ∧
        DpAll K H' rs ((Ps.drop (us.length - i)).map (put g)) ∧ Same H1 H')
      ⟨none, none, none, [], ?_, ?_, ?_, s2⟩ ?_ ?_
    · have e : endAt [d] Ps us.length = us.length := by
        unfold endAt
        rw [List.take_of_length_le (by omega)]
        omega
      rw [Nat.sub_zero, e]
      rfl
    · rw [Nat.sub_zero, List.take_of_length_le (Nat.le_refl _), List.append_nil]
      exact eq0
    · rw [Nat.sub_zero, List.drop_eq_nil_of_le (by omega)]
      exact .nil
    · rintro i σ H' hi ⟨o5, o6, o7, rs, rfl, eq, drs, smx⟩
      have hi' : i < us.length := by omega
      obtain ⟨m, hm⟩ : ∃ m, us.length - i = m + 1 := ⟨us.length - i - 1, by omega⟩
      have hm2 : us.length - (i + 1) = m := by omega
      have mlt : m < Ps.length := by omega
      rw [hm] at eq drs
      have item : (0 : Int) + ((((us.length : Int) - 0).toNat : Nat) : Int) - 1 + ((i : Nat) : Int) * (-1) = ((m : Nat) : Int) := by omega
      have hx : Ps[m]? = some Ps[m] := List.getElem?_eq_getElem mlt
      obtain ⟨y, hy, dy⟩ := dps_at dp hx
      generalize Ps[m] = x at hx dy
      have xm := List.mem_of_getElem? hx
      have tx := fit.things x xm
      obtain ⟨b1, b2, b3, b4⟩ := bf.at_ hx
      have rl := dps_len drs
      rw [List.length_map, List.length_drop] at rl
      have dr : Ps.drop m = x :: Ps.drop (m + 1) := by
        rw [List.drop_eq_getElem_cons mlt]
        have := List.getElem?_eq_getElem mlt
        rw [hx] at this
        injection this with this
        rw [← this]
      have dy' := th_kt (kt_same smx) x y tx dy
      have mts : ∀ z ∈ (Ps.drop (m + 1)).map (put g), thing z = true := fun z hz => by
        obtain ⟨z', hz', rfl⟩ := List.mem_map.mp hz
        exact pth z' (List.mem_of_mem_drop hz')
      have hlen : m < (us.take (m + 1) ++ rs).length := by
        rw [List.length_append, List.length_take]
        omega
      have ix : ixN (us.take (m + 1) ++ rs).length ((0 : Int) + ((((us.length : Int) - 0).toNat : Nat) : Int) - 1 + ((i : Nat) : Int) * (-1)) = some m := by
        rw [item]
        unfold ixN
        rw [if_pos (by omega), if_pos (by omega), Int.toNat_natCast]
      refine ⟨_, rfl, _, rfl, p, _, _, _, rfl, rfl, SqL.of (smx _ _ ep), (by rw [item]; exact atI_nat hy), ?_⟩
      rw [hm2]
      rcases th_cases tx dy' with ⟨c, rfl, rfl⟩ | ⟨b, c, zs, ps, rfl, rfl, hb, hzs, pne, _⟩
      · refine ⟨_, rfl, _, _, _, _, false, rfl, .ty "tuple", .base (.str _), kit_ty rfl, _, rfl, ite2 (fun z => absurd z (by decide)) (fun _ => ?_)⟩
        have ho' := smx _ _ (s01 _ _ ho)
        have sH := same_tr s01 smx
        obtain ⟨u, hu1, du⟩ : ∃ u, (valV kvs (Sum.inr c)).getD (.str c) = u ∧ Dp K H' u (g c) := by
          rcases tells c with ⟨e1, e2⟩ | ⟨u, e1, e2⟩
          · rw [e1, e2]
            exact ⟨_, rfl, .str c⟩
          · rw [e1]
            exact ⟨u, rfl, th_kt (kt_same sH) _ _ (hg c) e2⟩
        refine ⟨_, rfl, o, rfl, .inl ⟨kvs, Rd.of ho'⟩, _, rfl, _, rfl, valV kvs (Sum.inr c), .inl ⟨kvs, Sum.inr c, Rd.of ho', rfl, rfl⟩, ?_⟩
        rw [hu1]
        refine ⟨_, rfl, _, rfl, q, _, _, m, rfl, rfl, eq, ix, ?_⟩
        rw [set_mid hy]
        refine ⟨some (.int ((0 : Int) + ((((us.length : Int) - 0).toNat : Nat) : Int) - 1 + ((i : Nat) : Int) * (-1))), some (.str c), o7, u :: rs, ?_, upd_same, ?_, fun b1 o1 e1 => (upd_ne (ne_of_none e1 hq)).trans (smx _ _ e1)⟩
        · have e : endAt [d] Ps (m + 1) = endAt [d] Ps m := by
            unfold endAt
            rw [b2]
            rfl
          rw [hm, e]
          rfl
        · rw [dr, List.map_cons, put_str]
          exact .cons (th_kt (kt_lst eq) _ _ (hg c) du) (ths_kt (kt_lst eq) _ _ (thingAll_iff.mpr mts) drs)
      · have zl := dps_len hzs
        have kn : kids (.tuple (.str c :: ps)) = ps := rfl
        rw [kn] at b1 b2 b3
        have bE : endAt [d] Ps (m + 1) = endAt [d] Ps m + ps.length := b2
        have e3 : endAt [d] Ps m + ps.length ≤ Ps.length := b3
        have e4 : m < endAt [d] Ps m := b4
        rw [hm, bE]
        refine ⟨_, rfl, _, _, _, _, true, rfl, .ty "tuple", sqT_ty' hb, kit_ty rfl, _, rfl, ite2 (fun _ => ?_) (fun z => absurd rfl z)⟩
        refine ⟨_, rfl, _, rfl, b, _, rfl, .inr hb, _, _, rfl, rfl, _, _, rfl, rfl, ?_⟩
        have bg : ((endAt [d] Ps m + ps.length : Nat) : Int) - (((V.str c :: zs).length : Nat) : Int) + 1 = ((endAt [d] Ps m : Nat) : Int) := by
          rw [List.length_cons]
          omega
        have parts : cutV (us.take (m + 1) ++ rs) (some (((endAt [d] Ps m + ps.length : Nat) : Int) - (((V.str c :: zs).length : Nat) : Int) + 1)) (some ((endAt [d] Ps m + ps.length : Nat) : Int)) = (rs.drop (endAt [d] Ps m - (m + 1))).take ps.length := by
          rw [bg]
          unfold cutV
          have hl : (us.take (m + 1) ++ rs).length = Ps.length := by
            rw [List.length_append, List.length_take]
            omega
          rw [hl, HT.sIx_nat, HT.sIx_nat, Nat.min_eq_left (by omega), Nat.min_eq_left (by omega)]
          have e5 : endAt [d] Ps m + ps.length - endAt [d] Ps m = ps.length := by omega
          rw [e5, List.drop_append, List.length_take, Nat.min_eq_left (by omega), List.drop_eq_nil_of_le (by rw [List.length_take]; omega), List.nil_append]
        have dparts : DpAll K H' ((rs.drop (endAt [d] Ps m - (m + 1))).take ps.length) (ps.map (put g)) := by
          have := dps_take ps.length (dps_drop (endAt [d] Ps m - (m + 1)) drs)
          rw [← List.map_drop, List.drop_drop, ← List.map_take] at this
          have e6 : m + 1 + (endAt [d] Ps m - (m + 1)) = endAt [d] Ps m := by omega
          rw [e6] at this
          have b1' : List.take ps.length (List.drop (endAt [d] Ps m) Ps) = ps := b1
          rw [b1'] at this
          exact this
        have pths : ∀ z ∈ ps.map (put g), thing z = true := fun z hz => by
          obtain ⟨z', hz', rfl⟩ := List.mem_map.mp hz
          exact put_thing hg _ z' (Nat.le_refl _) (thing_kids tx hz')
        have plen : ((rs.drop (endAt [d] Ps m - (m + 1))).take ps.length).length ≤ 10000 := by
          rw [dps_len dparts, List.length_map]
          omega
        refine ⟨_, rfl, b, _, _, _, rfl, rfl, hb, at0, _, rfl, _, rfl, _, rfl, _, rfl, _, rfl, q, _, rfl, SqL.of eq, fun r hr => ?_⟩
        rw [parts]
        generalize (rs.drop (endAt [d] Ps m - (m + 1))).take ps.length = rs' at dparts plen parts
        refine ⟨r, rs', rfl, .inr (SqL.of upd_same), by rw [List.append_nil, List.length_cons, line]; omega, fun t ht => ?_⟩
        rw [List.append_nil]
        have eqr : upd (upd H' r (.lst rs')) t (.tup (.str c :: rs')) q = some (.lst (us.take (m + 1) ++ rs)) := (upd_ne (ne_of_none ((upd_ne (ne_of_none eq hr)).trans eq) ht)).trans ((upd_ne (ne_of_none eq hr)).trans eq)
        have ktr : KT K H' (upd (upd H' r (.lst rs')) t (.tup (.str c :: rs'))) := (kt_new hr).tr (kt_new ht)
        have et : upd (upd H' r (.lst rs')) t (.tup (.str c :: rs')) t = some (.tup (.str c :: rs')) := upd_same
        have sA : Same H1 (upd (upd H' r (.lst rs')) t (.tup (.str c :: rs'))) := same_new (same_new smx hr) ht
        generalize upd (upd H' r (.lst rs')) t (.tup (.str c :: rs')) = H3 at eqr ktr et sA
        refine ⟨_, rfl, _, rfl, q, _, _, m, rfl, rfl, eqr, ix, ?_⟩
        rw [set_mid hy]
        have kt3 : KT K H3 (upd H3 q (.lst (us.take m ++ V.ref t :: rs))) := kt_lst eqr
        refine ⟨_, rfl, some (.int ((0 : Int) + ((((us.length : Int) - 0).toNat : Nat) : Int) - 1 + ((i : Nat) : Int) * (-1))), some (.ref b), some (.int (((endAt [d] Ps m + ps.length : Nat) : Int) - (((V.str c :: zs).length : Nat) : Int) + 1)), .ref t :: rs, ?_, upd_same, ?_, fun b1 o1 e1 => (upd_ne (ne_of_none e1 hq)).trans (sA _ _ e1)⟩
        · rw [← bg]
          rfl
        · rw [dr, List.map_cons, put_tup]
          exact .cons (.tup (kt3 _ _ (SqT.of et)) (.cons (.str c) (ths_kt (ktr.tr kt3) _ _ (thingAll_iff.mpr pths) dparts))) (ths_kt (ktr.tr kt3) _ _ (thingAll_iff.mpr mts) drs)
    · rintro σ H' ⟨o5, o6, o7, rs, rfl, eq, drs, smx⟩
      have z : us.length - ((us.length : Int) - 0).toNat = 0 := by omega
      rw [z] at eq drs
      rw [List.take_zero, List.nil_append] at eq
      rw [List.drop_zero] at drs
      obtain ⟨R, rfl⟩ := bfs_head bf
      rw [List.map_cons] at drs
      cases drs with
      | cons h1 r1 => exact ⟨_, rfl, q, _, _, _, rfl, rfl, SqL.of eq, at0, k _ H' (same_tr s01 smx) h1⟩
end
end K09

set_option Elab.async false
set_option linter.all false
set_option maxRecDepth 100000
set_option maxHeartbeats 4000000
/-! A name replaced; words and names as the law sees them. -/
namespace K09
open PySem PySem.Spec PyProof.Rows L2 Mine TL
/-- e in the place of n -/
def subst (n : Str) (e : PyData) (x : Str) : PyData := if x = n then e else .str x
theorem subst_thing {n : Str} {e : PyData} (h : thing e = true) (x : Str) : thing (subst n e x) = true := by
  unfold subst
  split
  · exact h
  · simp [thing]
section
variable {P : Program} {w : World} {K : PySem.W.Frag} {mg : Str → Option Value} {base : Heap}
abbrev sLWord : Stmt := top 55
abbrev sLName : Stmt := top 56
def btw (a b c : Nat) : Bool := decide (a ≤ c) && decide (c ≤ b)
theorem abc_btw (c : Nat) : inS ABCR c = btw 97 122 c := by
  have e : ABCR.cps.toList = List.range' 97 26 := by decide +kernel
  unfold inS btw
  rw [e, ← Bool.decide_and, decide_eq_decide, List.mem_range'_1]
  omega
theorem cap_btw (c : Nat) : inS CAP c = btw 65 90 c := by
  have e : CAP.cps.toList = List.range' 65 26 := by decide +kernel
  unfold inS btw
  rw [e, ← Bool.decide_and, decide_eq_decide, List.mem_range'_1]
  omega
theorem dig_btw (c : Nat) : inS DIG c = btw 48 57 c := by
  have e : DIG.cps.toList = List.range' 48 10 := by decide +kernel
  unfold inS btw
  rw [e, ← Bool.decide_and, decide_eq_decide, List.mem_range'_1]
  omega
def sgn (c : Nat) : Str := ⟨#[c]⟩
theorem sgn_lt (a b : Nat) : decide ((sgn a).cps.toList < (sgn b).cps.toList) = decide (a < b) := by
  show decide ([a] < [b]) = decide (a < b)
  rw [StrLaws.lt_cons_cons, StrLaws.lt_nil_nil, Bool.and_false, Bool.or_false]
theorem le_sgn {a c : Nat} {s : String} (h : PySem.Str.ofString s = sgn a) : (!decide ((sgn c).cps.toList < (PySem.Str.ofString s).cps.toList)) = decide (a ≤ c) := by
  rw [h, sgn_lt]
  by_cases z : c < a
  · rw [decide_eq_true z, decide_eq_false (by omega)]; rfl
  · rw [decide_eq_false z, decide_eq_true (by omega)]; rfl
theorem ge_sgn {b c : Nat} {s : String} (h : PySem.Str.ofString s = sgn b) : (!decide ((PySem.Str.ofString s).cps.toList < (sgn c).cps.toList)) = decide (c ≤ b) := by
  rw [h, sgn_lt]
  by_cases z : b < c
  · rw [decide_eq_true z, decide_eq_false (by omega)]; rfl
  · rw [decide_eq_false z, decide_eq_true (by omega)]; rfl
theorem kept_snoc {f : Nat → Bool} {l : List Nat} {i c : Nat} (h : l[i]? = some c) : (l.take (i + 1)).filter f = if f c = true then (l.take i).filter f ++ [c] else (l.take i).filter f := by
  rw [List.take_add_one, h, List.filter_append]
  cases e : f c <;> simp [e]
theorem sgns_dp {K : PySem.W.Frag} {H : Hp} (l : List Nat) : DpAll K H (l.map fun c => V.str (sgn c)) (l.map fun c => PyData.str (sgn c)) := by
  induction l with
  | nil => exact .nil
  | cons c l ih => exact .cons (.str _) ih
theorem sgns_shaped {l : List Nat} (h : ∀ c ∈ l, c < 0x110000) : SeqAt.shaped (.list (l.map fun c => PyData.str (sgn c))) = true := by
  have a : PyData.canLayAll0 (l.map fun c => PyData.str (sgn c)) = true ∧ PyData.depthAll (l.map fun c => PyData.str (sgn c)) = 0 := by
    induction l with
    | nil => simp [PyData.canLayAll0, PyData.depthAll]
    | cons c l ih =>
      obtain ⟨i1, i2⟩ := ih fun d hd => h d (List.mem_cons_of_mem _ hd)
      have e : PyData.strOk (sgn c) = true := by
        unfold PyData.strOk sgn
        simp [h c (List.mem_cons_self ..)]
      refine ⟨by simp only [List.map_cons, PyData.canLayAll0, PyData.canLay0, e, i1]; rfl, ?_⟩
      simp only [List.map_cons, PyData.depthAll, PyData.depth, i2]
      rfl
  show (PyData.canLay0 _ && decide (PyData.depth _ ≤ 64)) = true
  simp only [PyData.canLay0, PyData.depth, a.1, a.2]
  rfl
theorem none_left (f : Nat → Bool) (l : List Nat) : PyData.eqv (.list ((l.filter fun c => !f c).map fun c => PyData.str (sgn c))) (.list []) = l.all f := by
  have e : ∀ ds : List PyData, PyData.eqv (.list ds) (.list []) = ds.isEmpty := fun ds => by cases ds <;> simp [PyData.eqv, PyData.eqvAll]
  rw [e]
  induction l with
  | nil => rfl
  | cons c l ih =>
    rw [List.filter_cons, List.all_cons]
    cases h : f c with
    | true => simpa using ih
    | false => simp
def spLIs (f : Str → Bool) : Sp := fun vs H Q _ => ∃ x, vs = [.str x] ∧ x.length ≤ sizeLine ∧ (∀ c ∈ x.cps.toList, c < 0x110000) ∧ ∀ H', Same H H' → Q (.bl (f x)) H'
structure TxtLI (mg : Str → Option Value) : Prop where
  isi : mg "isinstance" = none
  str : mg "str" = none
  len : mg "len" = none
theorem scLWord : FnScope ["_law_it", "_law_sign"] ["_law_it"] (defScope sLWord) := ⟨rfl, rfl, rfl, by decide +kernel, rfl, by decide +kernel, by decide +kernel⟩
theorem ok_lWord {f : Addr} {fd : FuncData} (F : Fun K "_law_is_word" "_law_is_word" sLWord f fd) (T : TxtLI mg) : FnOk P w K mg base CX0 1 f fd ["_law_it"] (spLIs isW) := by
  refine F.ok scLWord (fun vs H Q E h => ?_) (fun cdv A outer s H vs Q E hr h => ?_)
  · obtain ⟨x, rfl, _⟩ := h
    rfl
  · obtain ⟨x, rfl, sz, okc, k⟩ := h
    refine ⟨_, pss_cons (ps_if (PW.pt (pw_or (pt_not (pt_val (pe_callB call_isi (by rfl) T.isi (by decide +kernel) (pa_cons (pv 0) (pa_cons (pe_bltn (v := .ty "str") rfl T.str (by decide +kernel) rfl) pa_nil)))))
        (pw_or (pt_cmpR op_lt (pe_callB call_len_str (by rfl) T.len PySem.boot_len (pa_cons (pv 0) pa_nil)) pe_int (nomark _)) (pw_or1 (pt_cmpR op_gt (pe_callB call_len_str (by rfl) T.len PySem.boot_len (pa_cons (pv 0) pa_nil)) pe_int (nomark _)))))) (pss_one (ps_ret pe_bl)) pss_nil)
      (pss_one (ps_ret (pe_cmpR (op_eqD hr.units) (pe_lc (own := [("_law_sign", 1)]) (g := gName 1) rfl scLWord.nd (pi_str (pv 0))
        (blkOk_by (own := [("_law_sign", 1)]) (N := ["_law_it", "_law_sign"]) (sc := defScope sLWord) (by decide +kernel))
        (fun _ _ _ _ _ => pg_name (i := 1) scLWord.nd rfl (Or.inl rfl)) (fun _ _ _ _ _ => pts_one (pt_not (pt_chain op_le_str op_le_str pe_str (pv 1) pe_str))) (fun _ _ _ _ _ => pv 1)) (pe_lst pa_nil) (nomark _)))), ?_⟩
    have e97 : PySem.Str.ofString "a" = sgn 97 := by decide +kernel
    have e122 : PySem.Str.ofString "z" = sgn 122 := by decide +kernel
    have iw : isW x = (decide (1 ≤ x.length) && decide (x.length ≤ 8) && x.cps.toList.all (btw 97 122)) := by
      unfold isW shortS
      have : inS ABCR = btw 97 122 := funext abc_btw
      rw [this]
    refine ⟨_, rfl, _, _, _, _, true, rfl, .ty "str", .base (.str x), kit_ty rfl, _, rfl, ite2 (fun z => absurd z (by decide)) (fun _ => ?_)⟩
    refine ⟨_, rfl, x, rfl, sz, _, _, rfl, rfl, _, rfl, ite2 (fun h1 => ?_) (fun h1 => ?_)⟩
    · have : ¬ 1 ≤ x.length := by have := of_decide_eq_true h1; omega
      rw [decide_eq_false this, Bool.false_and, Bool.false_and] at iw
      have := k H same_rfl
      rw [iw] at this
      exact this
    have l1 : 1 ≤ x.length := by
      have : ¬ (x.length : Int) < 1 := fun z => h1 (decide_eq_true z)
      omega
    refine ⟨_, rfl, x, rfl, sz, _, _, rfl, rfl, _, rfl, ite2 (fun h2 => ?_) (fun h2 => ?_)⟩
    · have : ¬ x.length ≤ 8 := by have := of_decide_eq_true h2; omega
      rw [decide_eq_false this, Bool.and_false, Bool.false_and] at iw
      have := k H same_rfl
      rw [iw] at this
      exact this
    have l8 : x.length ≤ 8 := by
      have : ¬ (x.length : Int) > 8 := fun z => h2 (decide_eq_true z)
      omega
    rw [decide_eq_true l1, decide_eq_true l8, Bool.true_and, Bool.true_and] at iw
    have xl : x.cps.toList.length = x.length := by simp [Str.length]
    refine ⟨_, rfl, x, rfl, fun D hD => ?_⟩
    refine lc_it walk_str (fun i H' => H' = upd H D (.lst (((x.cps.toList.take i).filter fun c => !btw 97 122 c).map fun c => V.str (sgn c)))) rfl (fun _ _ _ _ => trivial) ?_ ?_
    · rintro i y H1 H2 hi rfl ⟨rfl, c, hc, rfl⟩
      have hc' : x.cps.toList[i]? = some c := by rw [Array.getElem?_toList]; exact hc
      have ks := kept_snoc (f := fun c => !btw 97 122 c) hc'
      have small : ((x.cps.toList.take i).filter fun c => !btw 97 122 c).length ≤ 8 := by
        refine Nat.le_trans (List.length_filter_le _ _) ?_
        rw [List.length_take]
        omega
      have put1 : (!btw 97 122 c) = true → ∃ acc, upd H D (.lst (((x.cps.toList.take i).filter fun c => !btw 97 122 c).map fun c => V.str (sgn c))) D = some (.lst acc) ∧ acc.length < sizeLine ∧
          upd (upd H D (.lst (((x.cps.toList.take i).filter fun c => !btw 97 122 c).map fun c => V.str (sgn c)))) D (.lst (acc ++ [V.str (sgn c)])) = upd H D (.lst (((x.cps.toList.take (i + 1)).filter fun c => !btw 97 122 c).map fun c => V.str (sgn c))) := fun hb => by
        refine ⟨_, upd_same, by rw [List.length_map, sizeLine_eq]; omega, ?_⟩
        rw [upd_upd, ks, if_pos hb, List.map_append]
        rfl
      have put0 : (!btw 97 122 c) = false → upd H D (.lst (((x.cps.toList.take i).filter fun c => !btw 97 122 c).map fun c => V.str (sgn c))) = upd H D (.lst (((x.cps.toList.take (i + 1)).filter fun c => !btw 97 122 c).map fun c => V.str (sgn c))) := fun hb => by
        rw [ks, if_neg (by rw [hb]; decide)]
      refine ⟨rfl, _, rfl, _, sgn c, rfl, rfl, _, rfl, ite2 (fun ha => ?_) (fun ha => ?_)⟩
      · have ha' : decide (97 ≤ c) = true := by rw [← le_sgn (c := c) e97]; exact ha
        refine ⟨sgn c, _, rfl, rfl, _, rfl, ite2 (fun hb => ?_) (fun hb => ?_)⟩
        · have hb' : (!decide (c ≤ 122)) = true := by rw [← ge_sgn (c := c) e122]; exact hb
          exact ⟨_, rfl, put1 (by unfold btw; rw [ha', Bool.true_and]; exact hb')⟩
        · have hb' : ¬ (!decide (c ≤ 122)) = true := by rw [← ge_sgn (c := c) e122]; exact hb
          exact put0 (by unfold btw; rw [ha', Bool.true_and]; simpa using hb')
      · have ha' : decide (97 ≤ c) = false := by
          rw [← le_sgn (c := c) e97]
          cases q : (!decide ((sgn c).cps.toList < (PySem.Str.ofString "a").cps.toList)) with
          | false => rfl
          | true => exact absurd q ha
        refine ⟨_, rfl, ite2 (fun _ => ⟨_, rfl, put1 (by unfold btw; rw [ha']; rfl)⟩) (fun z => absurd rfl z)⟩
    · rintro H1 rfl
      refine ⟨Nat.zero_le _, fun e he => ?_⟩
      have sz' : x.cps.size = x.cps.toList.length := by rw [Array.length_toList]
      have eD : upd (upd H D (.lst (((x.cps.toList.take x.cps.size).filter fun c => !btw 97 122 c).map fun c => V.str (sgn c)))) e (.lst []) D = some (.lst ((x.cps.toList.filter fun c => !btw 97 122 c).map fun c => V.str (sgn c))) := by
        rw [upd_ne (ne_of_none upd_same he), upd_same, sz', List.take_of_length_le (Nat.le_refl _)]
      refine ⟨_, _, .lst (SqL.of eD) (sgns_dp _), .lst (SqL.of upd_same) .nil, sgns_shaped fun c hc => okc c (List.mem_filter.mp hc).1, rfl, ?_⟩
      rw [none_left, ← iw]
      exact k _ (same_new (same_new same_rfl hD) he)
end
end K09

set_option Elab.async false
set_option linter.all false
set_option maxRecDepth 100000
set_option maxHeartbeats 4000000
/-! Names as the law sees them. -/
namespace K09
open PySem PySem.Spec PyProof.Rows L2 Mine TL
theorem sgn_le {a c : Nat} {s : String} (h : PySem.Str.ofString s = sgn a) : (¬ (!decide ((sgn c).cps.toList < (PySem.Str.ofString s).cps.toList)) = true) → decide (a ≤ c) = false := fun q => by
  rw [← le_sgn (c := c) h]
  cases z : (!decide ((sgn c).cps.toList < (PySem.Str.ofString s).cps.toList)) with
  | false => rfl
  | true => exact absurd z q
section
variable {P : Program} {w : World} {K : PySem.W.Frag} {mg : Str → Option Value} {base : Heap}
theorem scLName : FnScope ["_law_it", "_law_sign"] ["_law_it"] (defScope sLName) := ⟨rfl, rfl, rfl, by decide +kernel, rfl, by decide +kernel, by decide +kernel⟩
theorem ok_lName {f : Addr} {fd : FuncData} (F : Fun K "_law_is_name" "_law_is_name" sLName f fd) (T : TxtLI mg) : FnOk P w K mg base CX0 1 f fd ["_law_it"] (spLIs isN) := by
  refine F.ok scLName (fun vs H Q E h => ?_) (fun cdv A outer s H vs Q E hr h => ?_)
  · obtain ⟨x, rfl, _⟩ := h
    rfl
  · obtain ⟨x, rfl, sz, okc, k⟩ := h
    refine ⟨_, pss_cons (ps_if (PW.pt (pw_or (pt_not (pt_val (pe_callB call_isi (by rfl) T.isi (by decide +kernel) (pa_cons (pv 0) (pa_cons (pe_bltn (v := .ty "str") rfl T.str (by decide +kernel) rfl) pa_nil)))))
        (pw_or (pt_cmpR op_lt (pe_callB call_len_str (by rfl) T.len PySem.boot_len (pa_cons (pv 0) pa_nil)) pe_int (nomark _)) (pw_or (pt_cmpR op_gt (pe_callB call_len_str (by rfl) T.len PySem.boot_len (pa_cons (pv 0) pa_nil)) pe_int (nomark _))
          (pw_or1 (pt_not (pt_chain op_le_str op_le_str pe_str (pe_ix ix_str (pv 0) pe_int (fun _ _ => rfl)) pe_str))))))) (pss_one (ps_ret pe_bl)) pss_nil)
      (pss_one (ps_ret (pe_cmpR (op_eqD hr.units) (pe_lc (own := [("_law_sign", 1)]) (g := gName 1) rfl scLName.nd (pi_str (pe_slice sl_str (pv 0) (po_some pe_int) po_none))
        (blkOk_by (own := [("_law_sign", 1)]) (N := ["_law_it", "_law_sign"]) (sc := defScope sLName) (by decide +kernel))
        (fun _ _ _ _ _ => pg_name (i := 1) scLName.nd rfl (Or.inl rfl)) (fun _ _ _ _ _ => pts_one (PW.pt (pw_and (pt_not (pt_chain op_le_str op_le_str pe_str (pv 1) pe_str)) (pw_and1 (pt_not (pt_chain op_le_str op_le_str pe_str (pv 1) pe_str)))))) (fun _ _ _ _ _ => pv 1)) (pe_lst pa_nil) (nomark _)))), ?_⟩
    have e97 : PySem.Str.ofString "a" = sgn 97 := by decide +kernel
    have e122 : PySem.Str.ofString "z" = sgn 122 := by decide +kernel
    have e65 : PySem.Str.ofString "A" = sgn 65 := by decide +kernel
    have e90 : PySem.Str.ofString "Z" = sgn 90 := by decide +kernel
    have e48 : PySem.Str.ofString "0" = sgn 48 := by decide +kernel
    have e57 : PySem.Str.ofString "9" = sgn 57 := by decide +kernel
    refine ⟨_, rfl, _, _, _, _, true, rfl, .ty "str", .base (.str x), kit_ty rfl, _, rfl, ite2 (fun z => absurd z (by decide)) (fun _ => ?_)⟩
    refine ⟨_, rfl, x, rfl, sz, _, _, rfl, rfl, _, rfl, ite2 (fun h1 => ?_) (fun h1 => ?_)⟩
    · have : ¬ 1 ≤ x.length := by have := of_decide_eq_true h1; omega
      have e : isN x = false := by
        unfold isN shortS
        rw [decide_eq_false this, Bool.false_and, Bool.false_and]
      have := k H same_rfl
      rw [e] at this
      exact this
    have l1 : 1 ≤ x.length := by
      have : ¬ (x.length : Int) < 1 := fun z => h1 (decide_eq_true z)
      omega
    refine ⟨_, rfl, x, rfl, sz, _, _, rfl, rfl, _, rfl, ite2 (fun h2 => ?_) (fun h2 => ?_)⟩
    · have : ¬ x.length ≤ 8 := by have := of_decide_eq_true h2; omega
      have e : isN x = false := by
        unfold isN shortS
        rw [decide_eq_false this, Bool.and_false, Bool.false_and]
      have := k H same_rfl
      rw [e] at this
      exact this
    have l8 : x.length ≤ 8 := by
      have : ¬ (x.length : Int) > 8 := fun z => h2 (decide_eq_true z)
      omega
    have xl : x.cps.toList.length = x.length := by simp [Str.length]
    obtain ⟨c0, r0, hx⟩ : ∃ c0 r0, x.cps.toList = c0 :: r0 := by
      cases q : x.cps.toList with
      | nil => rw [q] at xl; simp at xl; omega
      | cons c0 r0 => exact ⟨c0, r0, rfl⟩
    have e : isN x = (btw 65 90 c0 && r0.all fun d => btw 97 122 d || btw 48 57 d) := by
      unfold isN shortS
      rw [decide_eq_true l1, decide_eq_true l8, hx, ← cap_btw, show (fun d => btw 97 122 d || btw 48 57 d) = fun d => inS ABCR d || inS DIG d from funext fun d => by rw [abc_btw, dig_btw]]
      rfl
    have no : btw 65 90 c0 = false → Q (.bl false) H := fun z => by
      have := k H same_rfl
      rw [e, z, Bool.false_and] at this
      exact this
    refine ⟨_, rfl, x, 0, c0, rfl, rfl, sz, (by rw [hx]; exact at0), _, sgn c0, rfl, rfl, _, rfl, ite2 (fun ha => ?_) (fun ha => ?_)⟩
    rotate_left
    · refine ⟨_, rfl, ite2 (fun _ => no ?_) (fun z => absurd rfl z)⟩
      unfold btw
      rw [sgn_le e65 ha, Bool.false_and]
    have ha' : decide (65 ≤ c0) = true := by rw [← le_sgn (c := c0) e65]; exact ha
    refine ⟨sgn c0, _, rfl, rfl, _, rfl, ite2 (fun hb => no ?_) (fun hb => ?_)⟩
    · have hb' : (!decide (c0 ≤ 90)) = true := by rw [← ge_sgn (c := c0) e90]; exact hb
      unfold btw
      rw [ha', Bool.true_and]
      simpa using hb'
    have hb' : decide (c0 ≤ 90) = true := by
      have hb' : ¬ (!decide (c0 ≤ 90)) = true := by rw [← ge_sgn (c := c0) e90]; exact hb
      simpa using hb'
    have hc0 : btw 65 90 c0 = true := by unfold btw; rw [ha', hb']; rfl
    rw [hc0, Bool.true_and] at e
    have ct : (cutS x (some 1) none).cps.toList = r0 := by
      show (((x.cps.toList.drop (HT.sIx x.length 0 (some 1))).take (HT.sIx x.length x.length none - HT.sIx x.length 0 (some 1))).toArray).toList = _
      have e1 : HT.sIx x.length 0 (some 1) = 1 := by
        have := HT.sIx_nat x.length 0 1
        rw [Nat.min_eq_left l1] at this
        exact this
      rw [e1, HT.sIx_none, hx, List.toList_toArray, List.drop_succ_cons, List.drop_zero, List.take_of_length_le]
      rw [hx] at xl
      rw [← xl]
      simp
    have rl : r0.length + 1 = x.length := by rw [← xl, hx]; rfl
    refine ⟨_, rfl, _, rfl, x, rfl, sz, cutS x (some 1) none, rfl, fun D hD => ?_⟩
    refine lc_it walk_str (fun i H' => H' = upd H D (.lst (((r0.take i).filter fun c => !(btw 97 122 c || btw 48 57 c)).map fun c => V.str (sgn c)))) rfl (fun _ _ _ _ => trivial) ?_ ?_
    · rintro i y H1 H2 hi rfl ⟨rfl, c, hc, rfl⟩
      have hc' : r0[i]? = some c := by rw [← ct, Array.getElem?_toList]; exact hc
      have ks := kept_snoc (f := fun c => !(btw 97 122 c || btw 48 57 c)) hc'
      have small : ((r0.take i).filter fun c => !(btw 97 122 c || btw 48 57 c)).length ≤ 8 := by
        refine Nat.le_trans (List.length_filter_le _ _) ?_
        rw [List.length_take]
        omega
      have put1 : (btw 97 122 c || btw 48 57 c) = false → ∃ acc, upd H D (.lst (((r0.take i).filter fun c => !(btw 97 122 c || btw 48 57 c)).map fun c => V.str (sgn c))) D = some (.lst acc) ∧ acc.length < sizeLine ∧
          upd (upd H D (.lst (((r0.take i).filter fun c => !(btw 97 122 c || btw 48 57 c)).map fun c => V.str (sgn c)))) D (.lst (acc ++ [V.str (sgn c)])) = upd H D (.lst (((r0.take (i + 1)).filter fun c => !(btw 97 122 c || btw 48 57 c)).map fun c => V.str (sgn c))) := fun hb => by
        refine ⟨_, upd_same, by rw [List.length_map, sizeLine_eq]; omega, ?_⟩
        rw [upd_upd, ks, if_pos (by show (!(btw 97 122 c || btw 48 57 c)) = true; rw [hb]; rfl), List.map_append]
        rfl
      have put0 : (btw 97 122 c || btw 48 57 c) = true → upd H D (.lst (((r0.take i).filter fun c => !(btw 97 122 c || btw 48 57 c)).map fun c => V.str (sgn c))) = upd H D (.lst (((r0.take (i + 1)).filter fun c => !(btw 97 122 c || btw 48 57 c)).map fun c => V.str (sgn c))) := fun hb => by
        rw [ks, if_neg (by show ¬ (!(btw 97 122 c || btw 48 57 c)) = true; rw [hb]; decide)]
      -- the second clause
      refine ⟨rfl, _, rfl, _, sgn c, rfl, rfl, _, rfl, ite2 (fun ha => ?_) (fun ha => ?_)⟩
      · have ha' : decide (97 ≤ c) = true := by rw [← le_sgn (c := c) e97]; exact ha
        refine ⟨sgn c, _, rfl, rfl, _, rfl, ite2 (fun hb => ?_) (fun hb => ?_)⟩
        · have hz : btw 97 122 c = false := by
            have hb' : (!decide (c ≤ 122)) = true := by rw [← ge_sgn (c := c) e122]; exact hb
            unfold btw
            rw [ha', Bool.true_and]
            simpa using hb'
          refine ⟨_, rfl, _, sgn c, rfl, rfl, _, rfl, ite2 (fun hA => ?_) (fun hA => ?_)⟩
          · have hA' : decide (48 ≤ c) = true := by rw [← le_sgn (c := c) e48]; exact hA
            refine ⟨sgn c, _, rfl, rfl, _, rfl, ite2 (fun hB => ?_) (fun hB => ?_)⟩
            · have hB' : (!decide (c ≤ 57)) = true := by rw [← ge_sgn (c := c) e57]; exact hB
              exact ⟨_, rfl, put1 (by rw [hz]; unfold btw; rw [hA', Bool.true_and, Bool.false_or]; simpa using hB')⟩
            · have hB' : ¬ (!decide (c ≤ 57)) = true := by rw [← ge_sgn (c := c) e57]; exact hB
              exact put0 (by rw [hz]; unfold btw; rw [hA', Bool.true_and, Bool.false_or]; simpa using hB')
          · have hA' := sgn_le e48 hA
            exact ⟨_, rfl, ite2 (fun _ => ⟨_, rfl, put1 (by rw [hz]; unfold btw; rw [hA']; rfl)⟩) (fun z => absurd rfl z)⟩
        · have hz : btw 97 122 c = true := by
            have hb' : ¬ (!decide (c ≤ 122)) = true := by rw [← ge_sgn (c := c) e122]; exact hb
            unfold btw
            rw [ha', Bool.true_and]
            simpa using hb'
          exact put0 (by rw [hz]; rfl)
      · have hz : btw 97 122 c = false := by
          unfold btw
          rw [sgn_le e97 ha]
          rfl
        refine ⟨_, rfl, ite2 (fun _ => ?_) (fun z => absurd rfl z)⟩
        refine ⟨_, rfl, _, sgn c, rfl, rfl, _, rfl, ite2 (fun hA => ?_) (fun hA => ?_)⟩
        · have hA' : decide (48 ≤ c) = true := by rw [← le_sgn (c := c) e48]; exact hA
          refine ⟨sgn c, _, rfl, rfl, _, rfl, ite2 (fun hB => ?_) (fun hB => ?_)⟩
          · have hB' : (!decide (c ≤ 57)) = true := by rw [← ge_sgn (c := c) e57]; exact hB
            exact ⟨_, rfl, put1 (by rw [hz]; unfold btw; rw [hA', Bool.true_and, Bool.false_or]; simpa using hB')⟩
          · have hB' : ¬ (!decide (c ≤ 57)) = true := by rw [← ge_sgn (c := c) e57]; exact hB
            exact put0 (by rw [hz]; unfold btw; rw [hA', Bool.true_and, Bool.false_or]; simpa using hB')
        · have hA' := sgn_le e48 hA
          exact ⟨_, rfl, ite2 (fun _ => ⟨_, rfl, put1 (by rw [hz]; unfold btw; rw [hA']; rfl)⟩) (fun z => absurd rfl z)⟩
    · rintro H1 rfl
      refine ⟨Nat.zero_le _, fun e' he => ?_⟩
      have sz' : (cutS x (some 1) none).cps.size = r0.length := by rw [← ct, Array.length_toList]
      have eD : upd (upd H D (.lst (((r0.take (cutS x (some 1) none).cps.size).filter fun c => !(btw 97 122 c || btw 48 57 c)).map fun c => V.str (sgn c)))) e' (.lst []) D = some (.lst ((r0.filter fun c => !(btw 97 122 c || btw 48 57 c)).map fun c => V.str (sgn c))) := by
        rw [upd_ne (ne_of_none upd_same he), upd_same, sz', List.take_of_length_le (Nat.le_refl _)]
      refine ⟨_, _, .lst (SqL.of eD) (sgns_dp _), .lst (SqL.of upd_same) .nil, sgns_shaped fun c hc => okc c (by rw [hx]; exact List.mem_cons_of_mem _ (List.mem_filter.mp hc).1), rfl, ?_⟩
      rw [none_left, ← e]
      exact k _ (same_new (same_new same_rfl hD) he)
end
end K09

set_option Elab.async false
set_option linter.all false
set_option maxRecDepth 100000
set_option maxHeartbeats 4000000
/-! The law's own text of a thing. -/
namespace K09
open PySem PySem.Spec PyProof.Rows L2 Mine TL
abbrev sLText : Stmt := top 54
def spLText (K : PySem.W.Frag) (n : Nat) : Sp := fun vs H Q _ => ∃ v d, vs = [v] ∧ Dp K H v d ∧ thing d = true ∧ PyData.depth d ≤ n ∧ (txt d).length ≤ 1000000 ∧ (sz d ≤ 4000) ∧ ∀ H', Same H H' → Q (.str (txt d)) H'
structure TxtLT (K : PySem.W.Frag) (mg : Str → Option Value) (f : Addr) : Prop where
  isi : mg "isinstance" = none
  str : mg "str" = none
  gS : mg "_law_text" = some (.ref f)
  kS : PySem.W.keepIn K (.ref f) = true
theorem kid_depth {d p : PyData} {n : Nat} (hp : p ∈ kids d) (h : PyData.depth d ≤ n + 1) : PyData.depth p ≤ n := by
  have go : ∀ {ds : List PyData} {p : PyData}, p ∈ ds → PyData.depth p ≤ PyData.depthAll ds := fun {ds p} => by
    induction ds with
    | nil => intro z; exact (List.not_mem_nil z).elim
    | cons d ds ih =>
      intro z
      simp only [PyData.depthAll]
      rcases List.mem_cons.mp z with rfl | z
      · exact Nat.le_max_left _ _
      · exact Nat.le_trans (ih z) (Nat.le_max_right _ _)
  cases d with
  | tuple ds =>
    cases ds with
    | nil => exact (List.not_mem_nil hp).elim
    | cons k ds =>
      have hp' : p ∈ ds := hp
      have := go (List.mem_cons_of_mem k hp')
      simp only [PyData.depth] at h
      omega
  | _ => exact (List.not_mem_nil hp).elim
theorem kid_depth0 {d : PyData} (h : PyData.depth d ≤ 0) : kids d = [] := by
  cases d with
  | tuple ds => simp only [PyData.depth] at h; omega
  | _ => rfl
theorem kid_sz {d p : PyData} (hp : p ∈ kids d) : sz p + 1 ≤ sz d := by
  have := flat_ge hp
  unfold sz
  rw [lot_eq d, List.length_cons]
  omega
theorem kids_num {ps : List PyData} {c : Str} (h : sz (.tuple (.str c :: ps)) ≤ 4000) : ps.length ≤ 4000 := by
  have e : (ps.flatMap lot).length + 1 = sz (.tuple (.str c :: ps)) := by
    unfold sz
    rw [lot_eq (.tuple _), List.length_cons]
    rfl
  have : ps.length ≤ (ps.flatMap lot).length := by
    clear h e
    induction ps with
    | nil => simp
    | cons p ps ih =>
      rw [List.flatMap_cons, List.length_append, List.length_cons]
      have := sz_pos p
      unfold sz at this
      omega
  omega
section
variable {P : Program} {w : World} {K : PySem.W.Frag} {mg : Str → Option Value} {base : Heap}
theorem scLText : FnScope ["_law_it", "_law_bit"] ["_law_it"] (defScope sLText) := ⟨rfl, rfl, rfl, by decide +kernel, rfl, by decide +kernel, by decide +kernel⟩
theorem ok_lText {f : Addr} {fd : FuncData} {n : Nat} {sp' : Sp} (F : Fun K "_law_text" "_law_text" sLText f fd) (T : TxtLT K mg f) (b : Binds K fd ["_law_it"] []) (G : FnOk P w K mg base CX0 n f fd ["_law_it"] sp') (hG : ∀ m, n = m + 1 → ∀ vs H Q E, spLText K m vs H Q E → sp' vs H Q E) : FnOk P w K mg base CX0 (n + 1) f fd ["_law_it"] (spLText K n) := by
  refine F.ok scLText (fun vs H Q E h => ?_) (fun cdv A outer s H vs Q E hr h => ?_)
  · obtain ⟨_, _, rfl, _⟩ := h
    rfl
  · obtain ⟨v, d, rfl, hd, td, dep, tl1, sz1, k⟩ := h
    refine ⟨_, pss_cons (ps_if (pt_val (pe_callB call_isi (by rfl) T.isi (by decide +kernel) (pa_cons (pv 0) (pa_cons (pe_bltn (v := .ty "str") rfl T.str (by decide +kernel) rfl) pa_nil)))) (pss_one (ps_ret (pv 0))) pss_nil)
      (pss_one (ps_ret (pe_op op_add_str (pe_op op_add_str (pe_op op_add_str (pe_ix ix_tup (pv 0) pe_int (fun _ _ => rfl)) pe_str)
        (pe_m1 PySem.F.slot_str_join PySem.F.type_str_join mt_join pe_str (pe_lc (own := [("_law_bit", 1)]) (g := gName 1) rfl scLText.nd (pi_tup (pe_slice sl_tup (pv 0) (po_some pe_int) po_none))
        (blkOk_by (own := [("_law_bit", 1)]) (N := ["_law_it", "_law_bit"]) (sc := defScope sLText) (by decide +kernel))
        (fun _ _ _ _ _ => pg_name (i := 1) scLText.nd rfl (Or.inl rfl)) (fun _ _ _ _ _ => pts_nil) (fun _ _ _ _ _ => pe_call G hr rfl T.gS T.kS b .nil pass0 (pa_cons (pv 1) pa_nil))))) pe_str))), ?_⟩
    have line : sizeLine = 16777216 := sizeLine_eq
    rcases th_cases td hd with ⟨c, rfl, rfl⟩ | ⟨a, c, zs, ps, rfl, rfl, ha, hzs, pne, tps⟩
    · exact ⟨_, rfl, _, _, _, _, true, rfl, .ty "str", .base (.str _), kit_ty rfl, _, rfl, ite2 (fun _ => ⟨_, rfl, by have := k H same_rfl; rwa [txt_str] at this⟩) (fun z => absurd rfl z)⟩
    · refine ⟨_, rfl, _, _, _, _, false, rfl, .ty "str", sqT_ty' ha, kit_ty rfl, _, rfl, ite2 (fun z => absurd z (by decide)) (fun _ => ?_)⟩
      obtain ⟨m, rfl⟩ : ∃ m, n = m + 1 := by
        cases n with
        | zero => simp only [PyData.depth] at dep; omega
        | succ m => exact ⟨m, rfl⟩
      have zl := dps_len hzs
      have zn : zs ≠ [] := fun z => pne (List.length_eq_zero_iff.mp (by rw [← zl, z]; rfl))
      have cut := cut1' (.str c) zs
      have kn := kids_num sz1
      rw [txt_tup] at tl1
      have comma1 : (PySem.Str.ofString ",").length = 1 := by decide +kernel
      have o1 : (PySem.Str.ofString "(").length = 1 := by decide +kernel
      have o2 : (PySem.Str.ofString ")").length = 1 := by decide +kernel
      have jl := join_len (y := PySem.Str.ofString ",") (ps := ps.map txt) (by simpa using pne)
      rw [strLen_append, strLen_append, strLen_append, o1, o2] at tl1
      rw [comma1] at jl
      refine ⟨_, rfl, a, _, _, _, rfl, rfl, ha, at0, _, _, rfl, rfl, by rw [o1]; omega, ?_⟩
      have whole : ¬ (HT.sIx (V.str c :: zs).length 0 (some 1) = 0 ∧ HT.sIx (V.str c :: zs).length (V.str c :: zs).length none = (V.str c :: zs).length) := fun z => by
        have e := HT.sIx_nat (V.str c :: zs).length 0 1
        have z1 := z.1
        rw [show ((1 : Nat) : Int) = 1 from rfl] at e
        rw [e, Nat.min_eq_left (by rw [List.length_cons]; omega)] at z1
        cases z1
      refine ⟨⟨_, rfl⟩, _, rfl, _, rfl, a, _, rfl, ha, whole, fun p hp => ?_⟩
      rw [cut]
      have s1 : Same H (upd H p (.tup zs)) := same_new same_rfl hp
      have ep : upd H p (.tup zs) p = some (.tup zs) := upd_same
      refine ⟨p, rfl, ⟨_, SqT.of ep⟩, fun D hD => ?_⟩
      refine lc_tup (K := K) (a := p) (xs := zs) (fun i H' => H' D = some (.lst (((ps.take i).map txt).map V.str)) ∧ Same (upd H p (.tup zs)) H') ⟨upd_same, same_new same_rfl hD⟩ (fun i H' _ z => SqT.of (z.2 _ _ ep)) ?_ ?_
      · rintro i y H' hi ⟨eD, s2⟩
        have il : i < zs.length := (List.getElem?_eq_some_iff.mp hi).1
        have hx : ps[i]? = some ps[i] := List.getElem?_eq_getElem (by omega)
        obtain ⟨y', hy', dy⟩ := dps_at hzs hx
        rw [hi] at hy'
        cases hy'
        generalize ps[i] = x at hx dy
        have mx := List.mem_of_getElem? hx
        have mk : x ∈ kids (.tuple (.str c :: ps)) := mx
        have tk : ps.take (i + 1) = ps.take i ++ [x] := by rw [List.take_add_one, hx]; rfl
        have lx := kid_len td mk
        rw [txt_tup, strLen_append, strLen_append, strLen_append, o1, o2] at lx
        have szx := kid_sz mk
        refine ⟨rfl, ?_⟩
        refine yes_if ?_
        refine ⟨_, rfl, hG m rfl _ _ _ _ ⟨y, x, rfl, th_kt (kt_same (same_tr s1 s2)) x y (tps x mx) dy, tps x mx, kid_depth mk dep, by omega, by omega, fun H2 s3 => ?_⟩⟩
        refine ⟨_, s3 _ _ eD, by rw [List.length_map, List.length_map, List.length_take]; omega, ?_⟩
        refine ⟨?_, fun b u e => ?_⟩
        · rw [upd_same, tk, List.map_append, List.map_append]
          rfl
        · exact (upd_ne (ne_of_none e hD)).trans (s3 _ _ (s2 _ _ e))
      · rintro H1 ⟨eD, s2⟩
        rw [zl, List.take_of_length_le (Nat.le_refl _)] at eD
        refine ⟨_, D, ps.map txt, rfl, rfl, .inl (SqL.of eD), by rw [comma1]; omega, ?_⟩
        refine ⟨_, _, rfl, rfl, by rw [strLen_append, o1, join_eq]; omega, _, _, rfl, rfl, by rw [strLen_append, strLen_append, o1, o2, join_eq]; omega, ?_⟩
        have := k H1 (same_tr s1 s2)
        rw [txt_tup] at this
        rw [join_eq]
        exact this
end
end K09

set_option Elab.async false
set_option linter.all false
set_option maxRecDepth 100000
set_option maxHeartbeats 4000000
/-! The law's own list of pieces. -/
namespace K09
open PySem PySem.Spec PyProof.Rows L2 Mine TL
abbrev sLLot : Stmt := top 57
def spLLot (K : PySem.W.Frag) (n : Nat) : Sp := fun vs H Q _ => ∃ v d, vs = [v] ∧ Dp K H v d ∧ thing d = true ∧ PyData.depth d ≤ n ∧ sz d ≤ 4000 ∧ ∀ (p : Addr) (us : List V) (H' : Hp), Same H H' → H p = none → H' p = some (.lst us) → DpAll K H' us (lot d) → Q (.ref p) H'
structure TxtLO (K : PySem.W.Frag) (mg : Str → Option Value) (f : Addr) : Prop where
  isi : mg "isinstance" = none
  tuple : mg "tuple" = none
  gS : mg "_law_lot" = some (.ref f)
  kS : PySem.W.keepIn K (.ref f) = true
section
variable {P : Program} {w : World} {K : PySem.W.Frag} {mg : Str → Option Value} {base : Heap}
theorem take_lot {ps : List PyData} {i : Nat} : ((ps.take i).flatMap lot).length ≤ (ps.flatMap lot).length := by
  have e : ps.flatMap lot = (ps.take i).flatMap lot ++ (ps.drop i).flatMap lot := by rw [← List.flatMap_append, List.take_append_drop]
  rw [e, List.length_append]
  omega
theorem scLLot : FnScope ["_law_it", "_law_found", "_law_bit"] ["_law_it"] (defScope sLLot) := ⟨rfl, rfl, rfl, by decide +kernel, rfl, by decide +kernel, by decide +kernel⟩
theorem ok_lLot {f : Addr} {fd : FuncData} {n : Nat} {sp' : Sp} (F : Fun K "_law_lot" "_law_lot" sLLot f fd) (T : TxtLO K mg f) (b : Binds K fd ["_law_it"] []) (G : FnOk P w K mg base CX0 n f fd ["_law_it"] sp') (hG : ∀ m, n = m + 1 → ∀ vs H Q E, spLLot K m vs H Q E → sp' vs H Q E) : FnOk P w K mg base CX0 (n + 1) f fd ["_law_it"] (spLLot K n) := by
  refine F.ok scLLot (fun vs H Q E h => ?_) (fun cdv A outer s H vs Q E hr h => ?_)
  · obtain ⟨_, _, rfl, _⟩ := h
    rfl
  · obtain ⟨v, d, rfl, hd, td, dep, sz1, k⟩ := h
    refine ⟨_, pss_cons (ps_set (i := 1) scLLot.nd rfl (.inl rfl) (pe_lst (pa_cons (pv 0) pa_nil)))
      (pss_cons (ps_for PassesOwn.never rfl (pi_tup (pe_ifExp (pt_val (pe_callB call_isi (by rfl) T.isi (by decide +kernel) (pa_cons (pv 0) (pa_cons (pe_bltn (v := .ty "tuple") rfl T.tuple (by decide +kernel) rfl) pa_nil)))) (pe_slice sl_tup (pv 0) (po_some pe_int) po_none) (pe_tup pa_nil)))
        (pg_name (i := 2) scLLot.nd rfl (.inl rfl))
        (pss_one (ps_set (i := 1) scLLot.nd rfl (.inl rfl) (pe_op op_cat (pv 1) (pe_call G hr rfl T.gS T.kS b .nil pass0 (pa_cons (pv 2) pa_nil))))))
      (pss_one (ps_ret (pv 1)))), ?_⟩
    have line : sizeLine = 16777216 := sizeLine_eq
    refine ⟨_, rfl, (by show 1 ≤ sizeLine; omega), fun p0 hp0 => ?_⟩
    have s0 : Same H (upd H p0 (.lst [v])) := same_new same_rfl hp0
    have e0 : upd H p0 (.lst [v]) p0 = some (.lst [v]) := upd_same
    have d0 : Dp K (upd H p0 (.lst [v])) v d := th_kt (kt_same s0) d v td hd
    show Ends.nx _ _ (upd H p0 (.lst [v]))
    generalize upd H p0 (.lst [v]) = H0 at s0 e0 d0
    rcases th_cases td d0 with ⟨c, rfl, rfl⟩ | ⟨a, c, zs, ps, rfl, rfl, ha, hzs, pne, tps⟩
    · refine ⟨_, rfl, _, _, _, _, false, rfl, .ty "tuple", .base (.str _), kit_ty rfl, _, rfl, ite2 (fun z => absurd z (by decide)) (fun _ => ?_)⟩
      refine ⟨Nat.zero_le _, fun q hq => ⟨q, rfl, ⟨_, SqT.of upd_same⟩, ?_⟩⟩
      refine for_tup (K := K) (a := q) (xs := []) (fun i σ H' => σ = [some (.str c), some (.ref p0), none] ∧ H' = upd H0 q (.tup [])) ⟨rfl, rfl⟩ (fun i σ H' _ z => by rw [z.2]; exact SqT.of upd_same) (fun i x σ H' z => by cases z) ?_
      rintro σ H' ⟨rfl, rfl⟩
      have e1 : upd H0 q (.tup []) p0 = some (.lst [.str c]) := (upd_ne (ne_of_none e0 hq)).trans e0
      refine ⟨_, rfl, k p0 [.str c] _ (same_tr s0 (same_new same_rfl hq)) hp0 e1 ?_⟩
      have : lot (.str c) = [.str c] := by simp [lot]
      rw [this]
      exact .cons (.str c) .nil
    · obtain ⟨m, rfl⟩ : ∃ m, n = m + 1 := by
        cases n with
        | zero => simp only [PyData.depth] at dep; omega
        | succ m => exact ⟨m, rfl⟩
      have zl := dps_len hzs
      have cut := cut1' (.str c) zs
      have whole : ¬ (HT.sIx (V.str c :: zs).length 0 (some 1) = 0 ∧ HT.sIx (V.str c :: zs).length (V.str c :: zs).length none = (V.str c :: zs).length) := fun z => by
        have e := HT.sIx_nat (V.str c :: zs).length 0 1
        have z1 := z.1
        rw [show ((1 : Nat) : Int) = 1 from rfl] at e
        rw [e, Nat.min_eq_left (by rw [List.length_cons]; omega)] at z1
        cases z1
      have lotE : lot (.tuple (.str c :: ps)) = .tuple (.str c :: ps) :: ps.flatMap lot := lot_eq _
      have all : (ps.flatMap lot).length ≤ 4000 := by
        have : sz (.tuple (.str c :: ps)) = (ps.flatMap lot).length + 1 := by
          unfold sz
          rw [lotE, List.length_cons]
        omega
      refine ⟨_, rfl, _, _, _, _, true, rfl, .ty "tuple", sqT_ty' ha, kit_ty rfl, _, rfl, ite2 (fun _ => ?_) (fun z => absurd rfl z)⟩
      refine ⟨_, rfl, _, rfl, a, _, rfl, ha, whole, fun q hq => ?_⟩
      rw [cut]
      have s1 : Same H0 (upd H0 q (.tup zs)) := same_new same_rfl hq
      have eq : upd H0 q (.tup zs) q = some (.tup zs) := upd_same
      refine ⟨q, rfl, ⟨_, SqT.of eq⟩, ?_⟩
      refine for_tup (K := K) (a := q) (xs := zs) (fun i σ H' => ∃ (p : Addr) (us : List V) (o2 : Option V), σ = [some (.ref a), some (.ref p), o2] ∧ H' p = some (.lst us) ∧ H p = none ∧ DpAll K H' us (.tuple (.str c :: ps) :: (ps.take i).flatMap lot) ∧ Same (upd H0 q (.tup zs)) H')
        ⟨p0, [.ref a], none, rfl, s1 _ _ e0, hp0, .cons (th_kt (kt_same s1) _ _ td d0) .nil, same_rfl⟩ (fun i σ H' _ ⟨_, _, _, _, _, _, _, z⟩ => SqT.of (z _ _ eq)) ?_ ?_
      · rintro i y σ H' hi ⟨p, us, o2, rfl, ep, np, dus, s2⟩
        have il : i < zs.length := (List.getElem?_eq_some_iff.mp hi).1
        have hx : ps[i]? = some ps[i] := List.getElem?_eq_getElem (by omega)
        obtain ⟨y', hy', dy⟩ := dps_at hzs hx
        rw [hi] at hy'
        cases hy'
        generalize ps[i] = x at hx dy
        have mx := List.mem_of_getElem? hx
        have mk : x ∈ kids (.tuple (.str c :: ps)) := mx
        have tk : ps.take (i + 1) = ps.take i ++ [x] := by rw [List.take_add_one, hx]; rfl
        have szx := kid_sz mk
        have ul := dps_len dus
        rw [List.length_cons] at ul
        have tl := take_lot (ps := ps) (i := i)
        refine ⟨_, rfl, _, rfl, hG m rfl _ _ _ _ ⟨y, x, rfl, th_kt (kt_same (same_tr s1 s2)) x y (tps x mx) dy, tps x mx, kid_depth mk dep, by omega, fun p2 us2 H2 s3 np2 ep2 d2 => ?_⟩⟩
        have ul2 := dps_len d2
        have e2 : (lot x).length = sz x := rfl
        refine ⟨p, p2, us, us2, rfl, rfl, s3 _ _ ep, ep2, by omega, fun p3 hp3 => ?_⟩
        have s4 : Same H2 (upd H2 p3 (.lst (us ++ us2))) := same_new same_rfl hp3
        refine ⟨p3, us ++ us2, _, rfl, upd_same, none_same (same_tr s0 (same_tr s1 (same_tr s2 s3))) hp3, ?_, same_tr s2 (same_tr s3 s4)⟩
        rw [tk, List.flatMap_append, ← List.cons_append]
        have e5 : [x].flatMap lot = lot x := one_lot x
        rw [e5]
        have l1 : thingAll (.tuple (.str c :: ps) :: (ps.take i).flatMap lot) = true := thingAll_iff.mpr fun z hz => by
          rcases List.mem_cons.mp hz with rfl | hz
          · exact td
          · obtain ⟨u, hu, hz⟩ := List.mem_flatMap.mp hz
            exact lot_thing _ u (Nat.le_refl _) (tps u (List.mem_of_mem_take hu)) z hz
        exact dps_app (ths_kt (kt_same (same_tr s3 s4)) _ _ l1 dus) (ths_kt (kt_same s4) _ _ (thingAll_iff.mpr fun z hz => lot_thing _ x (Nat.le_refl _) (tps x mx) z hz) d2)
      · rintro σ H' ⟨p, us, o2, rfl, ep, np, dus, s2⟩
        rw [zl, List.take_of_length_le (Nat.le_refl _), ← lotE] at dus
        exact ⟨_, rfl, k p us H' (same_tr s0 (same_tr s1 s2)) np ep dus⟩
end
end K09

set_option Elab.async false
set_option linter.all false
set_option maxRecDepth 100000
set_option maxHeartbeats 4000000
/-! Items of a book, their texts' sizes, that drawn books are right, and the text of a book as lines of words. -/
namespace K09
open PySem PySem.Spec PyProof.Rows L2 Mine TL
structure SA (s l k : Nat) (ds : List PyData) : Prop where
  ok : PyData.showableAll ds = true
  len : ((PyData.shownAll ds).map (·.length)).sum ≤ s
  num : (PyData.shownAll ds).length = k
  dep : PyData.depthAll ds ≤ l
theorem SA.nil {l : Nat} : SA 0 l 0 [] := ⟨by simp [PyData.showableAll], by simp [PyData.shownAll], by simp [PyData.shownAll], by simp [PyData.depthAll]⟩
theorem SA.snoc {s n l k : Nat} {d : PyData} (h : Shows n l d) {ds : List PyData} (a : SA s l k ds) : SA (s + n) l (k + 1) (ds ++ [d]) := by
  have ap1 : ∀ xs : List PyData, PyData.showableAll (xs ++ [d]) = (PyData.showableAll xs && d.showable) := fun xs => by
    induction xs with
    | nil => simp [PyData.showableAll]
    | cons x r ih => simp [PyData.showableAll, ih, Bool.and_assoc]
  have ap2 : ∀ xs : List PyData, PyData.shownAll (xs ++ [d]) = PyData.shownAll xs ++ [d.shown] := fun xs => by
    induction xs with
    | nil => simp [PyData.shownAll]
    | cons x r ih => simp [PyData.shownAll, ih]
  have ap3 : ∀ xs : List PyData, PyData.depthAll (xs ++ [d]) = max (PyData.depthAll xs) d.depth := fun xs => by
    induction xs with
    | nil => simp [PyData.depthAll]
    | cons x r ih =>
      simp only [List.cons_append, PyData.depthAll, ih]
      omega
  refine ⟨by rw [ap1, a.ok, h.ok]; rfl, ?_, ?_, ?_⟩
  · rw [ap2, List.map_append, List.sum_append]
    have := h.len
    have := a.len
    simp only [List.map_cons, List.map_nil, List.sum_cons, List.sum_nil]
    omega
  · rw [ap2, List.length_append]
    have := a.num
    simp only [List.length_cons, List.length_nil]
    omega
  · rw [ap3]
    have := h.dep
    have := a.dep
    omega
theorem SA.cons {s n l k : Nat} {d : PyData} (h : Shows n l d) {ds : List PyData} (a : SA s l k ds) : SA (s + n) l (k + 1) (d :: ds) := by
  have h1 := h.len
  have h2 := h.dep
  have a1 := a.len
  have a2 := a.dep
  have a3 := a.num
  refine ⟨?_, ?_, ?_, ?_⟩
  · simp only [PyData.showableAll, h.ok, a.ok]
    rfl
  · simp only [PyData.shownAll, List.map_cons, List.sum_cons]
    omega
  · simp only [PyData.shownAll, List.length_cons]
    omega
  · simp only [PyData.depthAll]
    omega
theorem SA.tuple {s l k : Nat} {ds : List PyData} (a : SA s l k ds) : Shows (s + 2 * k + 3) (l + 1) (.tuple ds) := by
  have h1 := tupleText_len_le (PyData.shownAll ds)
  have h3 := a.len
  have h4 := a.num
  have h5 := a.dep
  exact ⟨by simpa only [PyData.showable] using a.ok, by simp only [PyData.shown]; omega, by simp only [PyData.depth]; omega⟩
theorem SA.list {s l k : Nat} {ds : List PyData} (a : SA s l k ds) : Shows (s + 2 * k + 3) (l + 1) (.list ds) := by
  have h1 := listText_len_le (PyData.shownAll ds)
  have h3 := a.len
  have h4 := a.num
  have h5 := a.dep
  exact ⟨by simpa only [PyData.showable] using a.ok, by simp only [PyData.shown]; omega, by simp only [PyData.depth]; omega⟩
theorem w8_shows : ∀ x ∈ W8, (PyData.shown (.str x)).length ≤ 10 := by decide +kernel
theorem w8_str {x : Str} (h : x ∈ W8) : Shows 10 0 (.str x) := ⟨by simp [PyData.showable], w8_shows x h, by simp [PyData.depth]⟩
def ItemAt (H : Hp) (a : Addr) (o : Opn) : Prop := ∃ (b : Addr) (bs : List Addr), H a = some (.tup [.str o.w, .str o.k, .int o.g, .ref b]) ∧ H b = some (.tup (bs.map V.ref)) ∧ Paired (fun x n => H x = some (.tup (ndV n))) bs o.nn
theorem ItemAt.mono {H H' : Hp} {a : Addr} {o : Opn} (k : ∀ b xs, H b = some (.tup xs) → H' b = some (.tup xs)) (h : ItemAt H a o) : ItemAt H' a o :=
  let ⟨b, bs, h1, h2, h3⟩ := h
  ⟨b, bs, k _ _ h1, k _ _ h2, paired_mono (fun _ _ => k _ _) h3⟩
theorem ItemAt.opn {K : PySem.W.Frag} {H : Hp} {a : Addr} {o : Opn} (h : ItemAt H a o) : OpnAt K H a o :=
  let ⟨b, bs, h1, h2, h3⟩ := h
  ⟨b, bs, SqT.of h1, SqT.of h2, paired_mono (fun _ _ => SqT.of) h3⟩
theorem ks_paired {H : Hp} : ∀ {ms : List V} {ks : List (Str × Int)}, DKs H ms (ks.map kD) → ∃ ps : List Addr, ms = ps.map V.ref ∧ Paired (fun a p => H a = some (.tup [.str p.1, .int p.2])) ps ks
  | _, [], h => by cases h; exact ⟨[], rfl, .nil⟩
  | _, p :: ks, h => by
    cases h with
    | cons h1 h2 =>
      obtain ⟨a, rfl, e⟩ := kd_of h1
      obtain ⟨ps, rfl, r⟩ := ks_paired h2
      exact ⟨a :: ps, rfl, .cons e r⟩
theorem w8_nodup : W8.Nodup := by decide +kernel
def opD (o : Opn) : PyData := .tuple [.str o.w, .str o.k, .int o.g, .tuple (o.nn.map ndD)]
theorem nd_dk {H : Hp} {x : Addr} {n : Nd} (h : H x = some (.tup (ndV n))) : DK H (.ref x) (ndD n) := by
  cases n with
  | part j => exact .tup h (.cons (.str _) (.cons (.int _) .nil))
  | around c j => exact .tup h (.cons (.str _) (.cons (.str _) (.cons (.int _) .nil)))
  | inside j c => exact .tup h (.cons (.str _) (.cons (.int _) (.cons (.str _) .nil)))
theorem nds_dk {H : Hp} : ∀ {bs : List Addr} {nn : List Nd}, Paired (fun x n => H x = some (.tup (ndV n))) bs nn → DKs H (bs.map V.ref) (nn.map ndD)
  | _, _, .nil => .nil
  | _, _, .cons h r => .cons (nd_dk h) (nds_dk r)
theorem item_dk {H : Hp} {a : Addr} {o : Opn} (h : ItemAt H a o) : DK H (.ref a) (opD o) :=
  let ⟨_, _, h1, h2, h3⟩ := h
  .tup h1 (.cons (.str _) (.cons (.str _) (.cons (.int _) (.cons (.tup h2 (nds_dk h3)) .nil))))
theorem items_dk {H : Hp} : ∀ {as : List Addr} {os : List Opn}, Paired (ItemAt H) as os → DKs H (as.map V.ref) (os.map opD)
  | _, _, .nil => .nil
  | _, _, .cons h r => .cons (item_dk h) (items_dk r)
theorem sa_all {n l : Nat} : ∀ ds : List PyData, (∀ d ∈ ds, Shows n l d) → SA (n * ds.length) l ds.length ds
  | [], _ => SA.nil
  | d :: ds, h => by
    have := SA.cons (h d (List.mem_cons_self ..)) (sa_all ds fun x hx => h x (List.mem_cons_of_mem _ hx))
    rw [List.length_cons, Nat.mul_succ]
    exact this
theorem int_show {j : Int} (h0 : 0 ≤ j) (h1 : j < 4) : Shows 1 0 (.int j) := by
  have : j = 0 ∨ j = 1 ∨ j = 2 ∨ j = 3 := by omega
  rcases this with rfl | rfl | rfl | rfl <;> exact ⟨by decide +kernel, by decide +kernel, by decide +kernel⟩
theorem ww_shows : ∀ x ∈ WW, (PyData.shown (.str x)).length ≤ 10 := by decide +kernel
theorem ww_str {x : Str} (h : x ∈ WW) : Shows 10 0 (.str x) := ⟨by simp [PyData.showable], ww_shows x h, by simp [PyData.depth]⟩
theorem lit_str {x : Str} (h : (PyData.shown (.str x)).length ≤ 10 := by decide +kernel) : Shows 10 0 (.str x) := ⟨by simp [PyData.showable], h, by simp [PyData.depth]⟩
theorem w8_ww : ∀ x ∈ W8, x ∈ WW := by decide +kernel
theorem nd_show {m : Int} {ks : List (Str × Int)} {n : Nd} (h : NdOk m ks n) (h3 : m ≤ 3) (kw : ∀ p ∈ ks, p.1 ∈ WW) : Shows 40 1 (ndD n) := by
  cases n with
  | part j =>
    obtain ⟨j0, j1⟩ := h
    exact (SA.cons lit_str (SA.cons (int_show j0 (by omega)) SA.nil)).tuple.up (by decide) (Nat.le_refl _)
  | around c j =>
    obtain ⟨c1, j0, j1⟩ := h
    exact (SA.cons lit_str (SA.cons (ww_str (kw _ c1)) (SA.cons (int_show j0 (by omega)) SA.nil))).tuple.up (by decide) (Nat.le_refl _)
  | inside j c =>
    obtain ⟨c1, j0, j1⟩ := h
    exact (SA.cons lit_str (SA.cons (int_show j0 (by omega)) (SA.cons (ww_str (kw _ c1)) SA.nil))).tuple.up (by decide) (Nat.le_refl _)
theorem op_show {ks : List (Str × Int)} {o : Opn} (h : OpnOk ks o) (kw : ∀ p ∈ ks, p.1 ∈ WW) (kn : ∀ p ∈ ks, p.2 ≤ 3) : Shows 150 3 (opD o) := by
  obtain ⟨m, hm, g0, g1, nl, hn⟩ := h.ex
  have m3 : m ≤ 3 := kn _ hm
  have s1 : Shows 87 2 (.tuple (o.nn.map ndD)) := by
    have := (sa_all (n := 40) (l := 1) (o.nn.map ndD) fun d hd => by
      obtain ⟨n, hn1, rfl⟩ := List.mem_map.mp hd
      exact nd_show (hn n hn1) m3 kw).tuple
    rw [List.length_map] at this
    exact this.up (by omega) (by omega)
  exact (SA.cons ((ww_str h.ww).up (Nat.le_refl _) (Nat.zero_le 2)) (SA.cons ((ww_str (kw _ hm)).up (Nat.le_refl _) (Nat.zero_le 2)) (SA.cons ((int_show g0 (by omega)).up (Nat.le_refl _) (Nat.zero_le 2)) (SA.cons s1 SA.nil)))).tuple.up (by decide) (Nat.le_refl _)
theorem os_show {ks : List (Str × Int)} {os : List Opn} (h : ∀ o ∈ os, OpnOk ks o) (kw : ∀ p ∈ ks, p.1 ∈ WW) (kn : ∀ p ∈ ks, p.2 ≤ 3) (hl : os.length ≤ 20) : Shows 3100 4 (.tuple (os.map opD)) := by
  have := (sa_all (n := 150) (l := 3) (os.map opD) fun d hd => by
    obtain ⟨o, ho, rfl⟩ := List.mem_map.mp hd
    exact op_show (h o ho) kw kn).tuple
  rw [List.length_map] at this
  exact this.up (by omega) (by omega)
theorem ks_show {ks : List (Str × Int)} (kw : ∀ p ∈ ks, p.1 ∈ WW) (kn : ∀ p ∈ ks, 1 ≤ p.2 ∧ p.2 ≤ 3) (hl : ks.length ≤ 20) : Shows 500 2 (.tuple (ks.map kD)) := by
  have := (sa_all (n := 20) (l := 1) (ks.map kD) fun d hd => by
    obtain ⟨p, hp, rfl⟩ := List.mem_map.mp hd
    have := kn p hp
    exact (SA.cons (ww_str (kw p hp)) (SA.cons (int_show (j := p.2) (by omega) (by omega)) SA.nil)).tuple.up (by decide) (Nat.le_refl _)).tuple
  rw [List.length_map] at this
  exact this.up (by omega) (by omega)
theorem nd_of {m : Int} {ks : List (Str × Int)} {d : PyData} (h : NeedOk m (singles ks) d) : ∃ n, d = ndD n ∧ NdOk m ks n := by
  rcases h with ⟨j, j0, j1, rfl⟩ | ⟨c, j, hc, j0, j1, rfl⟩ | ⟨c, j, hc, j0, j1, rfl⟩
  · exact ⟨.part j, rfl, j0, j1⟩
  · exact ⟨.around c j, rfl, singles_mem hc, j0, j1⟩
  · exact ⟨.inside j c, rfl, singles_mem hc, j0, j1⟩
theorem nds_of {m : Int} {ks : List (Str × Int)} : ∀ {l : List PyData}, (∀ d ∈ l, NeedOk m (singles ks) d) → ∃ nn : List Nd, l = nn.map ndD ∧ ∀ n ∈ nn, NdOk m ks n
  | [], _ => ⟨[], rfl, fun _ z => (List.not_mem_nil z).elim⟩
  | d :: l, h => by
    obtain ⟨n, rfl, hn⟩ := nd_of (h d (List.mem_cons_self ..))
    obtain ⟨nn, rfl, hnn⟩ := nds_of (l := l) fun x hx => h x (List.mem_cons_of_mem _ hx)
    exact ⟨n :: nn, rfl, fun x hx => by
      rcases List.mem_cons.mp hx with rfl | hx
      · exact hn
      · exact hnn x hx⟩
theorem w6_ww : ∀ x ∈ W6, x ∈ WW := by decide +kernel
theorem w6_out : ∀ x ∈ W6, x ∉ W8 := by decide +kernel
theorem ops_of {ks : List (Str × Int)} (sub : (ks.map (·.1)).Sublist W8) : ∀ {os : List Op}, (∀ o ∈ os, OpOk ks o) → (∀ o ∈ os, o.w ∈ W6) → ∃ os' : List Opn, os.map oD = os'.map opD ∧ os'.map (·.w) = os.map (·.w) ∧ ∀ o ∈ os', OpnOk ks o
  | [], _, _ => ⟨[], rfl, rfl, fun _ z => (List.not_mem_nil z).elim⟩
  | o :: os, h, hw => by
    obtain ⟨os', e1, e2, h'⟩ := ops_of sub (os := os) (fun x hx => h x (List.mem_cons_of_mem _ hx)) fun x hx => hw x (List.mem_cons_of_mem _ hx)
    obtain ⟨m, hm, g0, g1, nl, hn⟩ := (h o (List.mem_cons_self ..)).ex
    obtain ⟨nn, en, hnn⟩ := nds_of hn
    have w6 := hw o (List.mem_cons_self ..)
    refine ⟨⟨o.w, o.k, o.g, nn⟩ :: os', ?_, ?_, fun x hx => ?_⟩
    · rw [List.map_cons, List.map_cons, e1]
      show oD o :: _ = opD ⟨o.w, o.k, o.g, nn⟩ :: _
      unfold oD opD
      rw [en]
    · rw [List.map_cons, List.map_cons, e2]
    · rcases List.mem_cons.mp hx with rfl | hx
      · exact ⟨w6_ww _ w6, fun z => w6_out _ w6 (sub.subset z), m, hm, g0, g1, by rw [en, List.length_map] at nl; exact nl, hnn⟩
      · exact h' x hx
theorem nd_at {H : Hp} {v : V} {n : Nd} (h : DK H v (ndD n)) : ∃ a, v = .ref a ∧ H a = some (.tup (ndV n)) := by
  cases n with
  | part j =>
    cases h with
    | tup e r =>
      cases r with
      | cons h1 r =>
        cases h1
        cases r with
        | cons h2 r =>
          cases h2
          cases r
          exact ⟨_, rfl, e⟩
  | around c j =>
    cases h with
    | tup e r =>
      cases r with
      | cons h1 r =>
        cases h1
        cases r with
        | cons h2 r =>
          cases h2
          cases r with
          | cons h3 r =>
            cases h3
            cases r
            exact ⟨_, rfl, e⟩
  | inside j c =>
    cases h with
    | tup e r =>
      cases r with
      | cons h1 r =>
        cases h1
        cases r with
        | cons h2 r =>
          cases h2
          cases r with
          | cons h3 r =>
            cases h3
            cases r
            exact ⟨_, rfl, e⟩
theorem nds_at {H : Hp} : ∀ {vs : List V} {nn : List Nd}, DKs H vs (nn.map ndD) → ∃ bs : List Addr, vs = bs.map V.ref ∧ Paired (fun x n => H x = some (.tup (ndV n))) bs nn
  | _, [], h => by cases h; exact ⟨[], rfl, .nil⟩
  | _, n :: nn, h => by
    cases h with
    | cons h1 h2 =>
      obtain ⟨a, rfl, e⟩ := nd_at h1
      obtain ⟨bs, rfl, r⟩ := nds_at h2
      exact ⟨a :: bs, rfl, .cons e r⟩
theorem item_at {H : Hp} {v : V} {o : Opn} (h : DK H v (opD o)) : ∃ a, v = .ref a ∧ ItemAt H a o := by
  cases h with
  | tup e r =>
    cases r with
    | cons h1 r =>
      cases h1
      cases r with
      | cons h2 r =>
        cases h2
        cases r with
        | cons h3 r =>
          cases h3
          cases r with
          | cons h4 r =>
            cases r
            cases h4 with
            | tup e4 r4 =>
              obtain ⟨bs, rfl, p⟩ := nds_at r4
              exact ⟨_, rfl, _, bs, e, e4, p⟩
theorem items_at {H : Hp} : ∀ {vs : List V} {os : List Opn}, DKs H vs (os.map opD) → ∃ as : List Addr, vs = as.map V.ref ∧ Paired (ItemAt H) as os
  | _, [], h => by cases h; exact ⟨[], rfl, .nil⟩
  | _, o :: os, h => by
    cases h with
    | cons h1 h2 =>
      obtain ⟨a, rfl, e⟩ := item_at h1
      obtain ⟨as, rfl, r⟩ := items_at h2
      exact ⟨a :: as, rfl, .cons e r⟩
def Lt (a b : Str) : Prop := a.cps.toList < b.cps.toList
instance : DecidableRel Lt := fun a b => inferInstanceAs (Decidable (a.cps.toList < b.cps.toList))
theorem asc_of {l : List Str} (h : l.Pairwise Lt) : Asc l := by
  intro i a b ha hb
  obtain ⟨h1, e1⟩ := List.getElem?_eq_some_iff.mp ha
  obtain ⟨h2, e2⟩ := List.getElem?_eq_some_iff.mp hb
  have := List.pairwise_iff_getElem.mp h i (i + 1) h1 h2 (Nat.lt_succ_self i)
  rw [e1, e2] at this
  exact this
theorem w8_lt : W8.Pairwise Lt := by decide +kernel
theorem w6_lt : W6.Pairwise Lt := by decide +kernel
theorem w6_nodup : W6.Nodup := by decide +kernel
theorem ks_ok {ks : List (Str × Int)} {os : List Op} (h : KitOk ks os) : KsOk ks := by
  refine ⟨h.ne, fun p hp => w8_ww _ (h.sub.subset (List.mem_map_of_mem hp)), h.num, asc_of (w8_lt.sublist h.sub), h.sub.nodup w8_nodup, ?_⟩
  have := h.sub.length_le
  rw [List.length_map] at this
  have e : W8.length = 8 := rfl
  omega
theorem os_len {ks : List (Str × Int)} {os : List Op} (h : KitOk ks os) : os.length ≤ 6 := by
  have := h.osub.length_le
  rw [List.length_map] at this
  exact this
def sk (s : String) (n : Int) : Str × Int := (PySem.Str.ofString s, n)
def stdKs : List (Str × Int) := [(PySem.Str.ofString "half", 1), (PySem.Str.ofString "lock", 2), (PySem.Str.ofString "mark", 1), (PySem.Str.ofString "pair", 2), (PySem.Str.ofString "seal", 2), (PySem.Str.ofString "sign", 2)]
def stdOs : List Opn := [⟨PySem.Str.ofString "first", PySem.Str.ofString "pair", 0, []⟩, ⟨PySem.Str.ofString "open", PySem.Str.ofString "lock", 0, [.part 1]⟩, ⟨PySem.Str.ofString "second", PySem.Str.ofString "pair", 1, []⟩, ⟨PySem.Str.ofString "shown", PySem.Str.ofString "sign", 0, []⟩,
  ⟨PySem.Str.ofString "signed", PySem.Str.ofString "sign", 0, [.around (PySem.Str.ofString "half") 1]⟩, ⟨PySem.Str.ofString "unseal", PySem.Str.ofString "seal", 0, [.inside 1 (PySem.Str.ofString "half")]⟩]
theorem std_ks : KsOk stdKs := ⟨by decide +kernel, by decide +kernel, by decide +kernel, asc_of (by decide +kernel), by decide +kernel, by decide +kernel⟩
theorem std_str : ∀ p ∈ stdKs, PyData.strOk p.1 = true := by decide +kernel
theorem std_os : OsOk stdKs stdOs := by
  refine ⟨fun o ho => ?_, asc_of (by decide +kernel), by decide +kernel⟩
  simp only [stdOs, List.mem_cons, List.not_mem_nil, or_false] at ho
  have no : ∀ {m : Int}, ∀ n ∈ ([] : List Nd), NdOk m stdKs n := fun _ z => (List.not_mem_nil z).elim
  have one : ∀ {m : Int} {n0 : Nd}, NdOk m stdKs n0 → ∀ n ∈ [n0], NdOk m stdKs n := fun h n hn => by
    rw [List.mem_singleton.mp hn]
    exact h
  rcases ho with rfl | rfl | rfl | rfl | rfl | rfl
  · exact ⟨by decide +kernel, by decide +kernel, 2, by decide +kernel, by decide, by decide, by decide, no⟩
  · exact ⟨by decide +kernel, by decide +kernel, 2, by decide +kernel, by decide, by decide, by decide, one ⟨by decide, by decide⟩⟩
  · exact ⟨by decide +kernel, by decide +kernel, 2, by decide +kernel, by decide, by decide, by decide, no⟩
  · exact ⟨by decide +kernel, by decide +kernel, 2, by decide +kernel, by decide, by decide, by decide, no⟩
  · exact ⟨by decide +kernel, by decide +kernel, 2, by decide +kernel, by decide, by decide, by decide, one ⟨by decide +kernel, by decide, by decide⟩⟩
  · exact ⟨by decide +kernel, by decide +kernel, 2, by decide +kernel, by decide, by decide, by decide, one ⟨by decide +kernel, by decide, by decide⟩⟩
/-- the constants of the standard book as the top has left them -/
def spS : Str := PySem.Str.ofString " "
def nlS : Str := PySem.Str.ofString "\n"
def num (i : Int) : Str := PySem.Str.ofString (toString i)
def kindW (p : Str × Int) : List Str := [PySem.Str.ofString "kind", p.1, num p.2]
def ndW : Nd → List Str
  | .part j => [PySem.Str.ofString "part", num j]
  | .around c j => [PySem.Str.ofString "around", c, num j]
  | .inside j c => [PySem.Str.ofString "inside", num j, c]
def opW (o : Opn) : List Str := [PySem.Str.ofString "opening", o.w, o.k, num o.g] ++ o.nn.flatMap ndW
def lineOf (ws : List Str) : Str := Txt.join spS ws
def pageL (ks : List (Str × Int)) (os : List Opn) : List Str := ks.map (fun p => lineOf (kindW p)) ++ os.map fun o => lineOf (opW o)
def page (ks : List (Str × Int)) (os : List Opn) : Str := Txt.join nlS (pageL ks os)
/-- a word that may stand in a line -/
structure Wd (x : Str) : Prop where
  sp : 32 ∉ tl x
  nl : 10 ∉ tl x
theorem ww_wd : ∀ x ∈ WW, 32 ∉ tl x ∧ 10 ∉ tl x := by decide +kernel
theorem wd_ww {x : Str} (h : x ∈ WW) : Wd x := ⟨(ww_wd x h).1, (ww_wd x h).2⟩
theorem wd_lit {x : Str} (h : 32 ∉ tl x := by decide +kernel) (h2 : 10 ∉ tl x := by decide +kernel) : Wd x := ⟨h, h2⟩
theorem wd_num {j : Int} (h0 : 0 ≤ j) (h1 : j < 4) : Wd (num j) := by
  have : j = 0 ∨ j = 1 ∨ j = 2 ∨ j = 3 := by omega
  rcases this with rfl | rfl | rfl | rfl <;> exact wd_lit
theorem num_inj {i j : Int} (i0 : 0 ≤ i) (i1 : i < 4) (j0 : 0 ≤ j) (j1 : j < 4) (h : num i = num j) : i = j := by
  have a : i = 0 ∨ i = 1 ∨ i = 2 ∨ i = 3 := by omega
  have b : j = 0 ∨ j = 1 ∨ j = 2 ∨ j = 3 := by omega
  rcases a with rfl | rfl | rfl | rfl <;> rcases b with rfl | rfl | rfl | rfl <;> first | rfl | exact absurd h (by decide +kernel)
theorem split_line {ws : List Str} (hne : ws ≠ []) (h : ∀ x ∈ ws, Wd x) : Txt.split (lineOf ws) spS = ws :=
  split_join (s := 32) (S := []) (by decide +kernel) (by decide +kernel) hne fun p hp => (h p hp).sp
theorem joinL_free {s : Nat} {S : List Nat} (hS : s ∉ S) : ∀ {ps : List (List Nat)}, (∀ p ∈ ps, s ∉ p) → s ∉ joinL S ps
  | [], _ => by simp [joinL]
  | [p], h => h p (List.mem_cons_self ..)
  | p :: q :: r, h => by
    show s ∉ p ++ (S ++ joinL S (q :: r))
    intro z
    rcases List.mem_append.mp z with z | z
    · exact h p (List.mem_cons_self ..) z
    · rcases List.mem_append.mp z with z | z
      · exact hS z
      · exact joinL_free hS (fun x hx => h x (List.mem_cons_of_mem _ hx)) z
theorem line_nl {ws : List Str} (h : ∀ x ∈ ws, Wd x) : 10 ∉ tl (lineOf ws) := by
  unfold lineOf
  rw [join_eq, tl_join]
  refine joinL_free (by decide +kernel) fun p hp => ?_
  obtain ⟨x, hx, rfl⟩ := List.mem_map.mp hp
  exact (h x hx).nl
theorem split_page {ls : List Str} (hne : ls ≠ []) (h : ∀ l ∈ ls, 10 ∉ tl l) : Txt.split (Txt.join nlS ls) nlS = ls :=
  split_join (s := 10) (S := []) (by decide +kernel) (by decide +kernel) hne h
theorem kindW_wd {ks : List (Str × Int)} (h : KsOk ks) {p : Str × Int} (hp : p ∈ ks) : ∀ x ∈ kindW p, Wd x := by
  have n := h.num p hp
  intro x hx
  simp only [kindW, List.mem_cons, List.not_mem_nil, or_false] at hx
  rcases hx with rfl | rfl | rfl
  · exact wd_lit
  · exact wd_ww (h.ww p hp)
  · exact wd_num (by omega) (by omega)
theorem ndW_wd {m : Int} {ks : List (Str × Int)} {n : Nd} (h : NdOk m ks n) (h3 : m ≤ 3) (kw : ∀ p ∈ ks, p.1 ∈ WW) : ∀ x ∈ ndW n, Wd x := by
  intro x hx
  cases n with
  | part j =>
    obtain ⟨j0, j1⟩ := h
    simp only [ndW, List.mem_cons, List.not_mem_nil, or_false] at hx
    rcases hx with rfl | rfl
    · exact wd_lit
    · exact wd_num j0 (by omega)
  | around c j =>
    obtain ⟨c1, j0, j1⟩ := h
    simp only [ndW, List.mem_cons, List.not_mem_nil, or_false] at hx
    rcases hx with rfl | rfl | rfl
    · exact wd_lit
    · exact wd_ww (kw _ c1)
    · exact wd_num j0 (by omega)
  | inside j c =>
    obtain ⟨c1, j0, j1⟩ := h
    simp only [ndW, List.mem_cons, List.not_mem_nil, or_false] at hx
    rcases hx with rfl | rfl | rfl
    · exact wd_lit
    · exact wd_num j0 (by omega)
    · exact wd_ww (kw _ c1)
theorem opW_wd {ks : List (Str × Int)} (hk : KsOk ks) {o : Opn} (h : OpnOk ks o) : ∀ x ∈ opW o, Wd x := by
  obtain ⟨m, hm, g0, g1, nl, hn⟩ := h.ex
  have m3 : m ≤ 3 := (hk.num _ hm).2
  intro x hx
  rcases List.mem_append.mp hx with hx | hx
  · simp only [List.mem_cons, List.not_mem_nil, or_false] at hx
    rcases hx with rfl | rfl | rfl | rfl
    · exact wd_lit
    · exact wd_ww h.ww
    · exact wd_ww (hk.ww _ hm)
    · exact wd_num g0 (by omega)
  · obtain ⟨n, hn1, hn2⟩ := List.mem_flatMap.mp hx
    exact ndW_wd (hn n hn1) m3 hk.ww x hn2
theorem pageL_nl {ks : List (Str × Int)} {os : List Opn} (hk : KsOk ks) (ho : OsOk ks os) : ∀ l ∈ pageL ks os, 10 ∉ tl l := by
  intro l hl
  rcases List.mem_append.mp hl with hl | hl
  · obtain ⟨p, hp, rfl⟩ := List.mem_map.mp hl
    exact line_nl (kindW_wd hk hp)
  · obtain ⟨o, ho1, rfl⟩ := List.mem_map.mp hl
    exact line_nl (opW_wd hk (ho.each o ho1))
theorem pageL_ne {ks : List (Str × Int)} {os : List Opn} (hk : KsOk ks) : pageL ks os ≠ [] := by
  intro z
  have := List.append_eq_nil_iff.mp z
  exact hk.ne (List.map_eq_nil_iff.mp this.1)
/-- the page, split into lines -/
theorem split_pg {ks : List (Str × Int)} {os : List Opn} (hk : KsOk ks) (ho : OsOk ks os) : Txt.split (page ks os) nlS = pageL ks os := split_page (pageL_ne hk) (pageL_nl hk ho)
/-! a text tells its book -/
theorem ndW_inj {m m' : Int} {ks ks' : List (Str × Int)} {n n' : Nd} {r r' : List Str} (h : NdOk m ks n) (h' : NdOk m' ks' n') (m3 : m ≤ 3) (m3' : m' ≤ 3) (e : ndW n ++ r = ndW n' ++ r') : n = n' ∧ r = r' := by
  cases n <;> cases n'
  case part.part j j' =>
    obtain ⟨j0, j1⟩ := h
    obtain ⟨i0, i1⟩ := h'
    simp only [ndW, List.cons_append, List.nil_append, List.cons.injEq, true_and] at e
    exact ⟨by rw [num_inj j0 (by omega) i0 (by omega) e.1], e.2⟩
  case around.around c j c' j' =>
    obtain ⟨_, j0, j1⟩ := h
    obtain ⟨_, i0, i1⟩ := h'
    simp only [ndW, List.cons_append, List.nil_append, List.cons.injEq, true_and] at e
    exact ⟨by rw [e.1, num_inj j0 (by omega) i0 (by omega) e.2.1], e.2.2⟩
  case inside.inside j c j' c' =>
    obtain ⟨_, j0, j1⟩ := h
    obtain ⟨_, i0, i1⟩ := h'
    simp only [ndW, List.cons_append, List.nil_append, List.cons.injEq, true_and] at e
    exact ⟨by rw [e.2.1, num_inj j0 (by omega) i0 (by omega) e.1], e.2.2⟩
  all_goals
    simp only [ndW, List.cons_append, List.nil_append, List.cons.injEq] at e
    exact absurd e.1 (by decide +kernel)
theorem nds_inj {m m' : Int} {ks ks' : List (Str × Int)} (m3 : m ≤ 3) (m3' : m' ≤ 3) : ∀ {a b : List Nd}, (∀ n ∈ a, NdOk m ks n) → (∀ n ∈ b, NdOk m' ks' n) → a.flatMap ndW = b.flatMap ndW → a = b
  | [], [], _, _, _ => rfl
  | [], n :: b, _, _, e => by
    cases n <;> simp [List.flatMap_cons, ndW] at e
  | n :: a, [], _, _, e => by
    cases n <;> simp [List.flatMap_cons, ndW] at e
  | n :: a, n' :: b, ha, hb, e => by
    rw [List.flatMap_cons, List.flatMap_cons] at e
    obtain ⟨e1, e2⟩ := ndW_inj (ha n (List.mem_cons_self ..)) (hb n' (List.mem_cons_self ..)) m3 m3' e
    rw [e1, nds_inj m3 m3' (fun x hx => ha x (List.mem_cons_of_mem _ hx)) (fun x hx => hb x (List.mem_cons_of_mem _ hx)) e2]
theorem opW_inj {ks ks' : List (Str × Int)} (hk : KsOk ks) (hk' : KsOk ks') {o o' : Opn} (h : OpnOk ks o) (h' : OpnOk ks' o') (e : opW o = opW o') : o = o' := by
  obtain ⟨m, hm, g0, g1, _, hn⟩ := h.ex
  obtain ⟨m', hm', i0, i1, _, hn'⟩ := h'.ex
  have m3 : m ≤ 3 := (hk.num _ hm).2
  have m3' : m' ≤ 3 := (hk'.num _ hm').2
  obtain ⟨w, k, g, nn⟩ := o
  obtain ⟨w', k', g', nn'⟩ := o'
  simp only [opW, List.cons_append, List.nil_append, List.cons.injEq, true_and] at e
  obtain ⟨rfl, rfl, eg, en⟩ := e
  have e3 := num_inj g0 (show g < 4 by have : g < m := g1; omega) i0 (show g' < 4 by have : g' < m' := i1; omega) eg
  have e4 := nds_inj m3 m3' hn hn' en
  have e3 : g = g' := e3
  have e4 : nn = nn' := e4
  subst e3 e4
  rfl
theorem line_inj {a b : List Str} (ha : a ≠ []) (hb : b ≠ []) (wa : ∀ x ∈ a, Wd x) (wb : ∀ x ∈ b, Wd x) (e : lineOf a = lineOf b) : a = b := by
  rw [← split_line ha wa, ← split_line hb wb, e]
theorem pageL_inj {K1 K2 : List (Str × Int)} (h1 : KsOk K1) (h2 : KsOk K2) : ∀ {ks ks' : List (Str × Int)} {os os' : List Opn}, (∀ p ∈ ks, p ∈ K1) → (∀ p ∈ ks', p ∈ K2) → (∀ o ∈ os, OpnOk K1 o) → (∀ o ∈ os', OpnOk K2 o) → pageL ks os = pageL ks' os' → ks = ks' ∧ os = os'
  | [], [], os, os', _, _, a, b, e => by
    refine ⟨rfl, ?_⟩
    simp only [pageL, List.map_nil, List.nil_append] at e
    induction os generalizing os' with
    | nil =>
      cases os' with
      | nil => rfl
      | cons o r => cases e
    | cons o r ih =>
      cases os' with
      | nil => cases e
      | cons o' r' =>
        rw [List.map_cons, List.map_cons, List.cons.injEq] at e
        have oo := a o (List.mem_cons_self ..)
        have oo' := b o' (List.mem_cons_self ..)
        rw [opW_inj h1 h2 oo oo' (line_inj (by simp [opW]) (by simp [opW]) (opW_wd h1 oo) (opW_wd h2 oo') e.1), ih (fun x hx => a x (List.mem_cons_of_mem _ hx)) (os' := r') (fun x hx => b x (List.mem_cons_of_mem _ hx)) e.2]
  | [], p :: r, os, os', _, c, a, _, e => by
    cases os with
    | nil => cases e
    | cons o os =>
      simp only [pageL, List.map_nil, List.nil_append, List.map_cons, List.cons_append, List.cons.injEq] at e
      have := line_inj (by simp [opW]) (by simp [kindW]) (opW_wd h1 (a o (List.mem_cons_self ..))) (kindW_wd h2 (c p (List.mem_cons_self ..))) e.1
      simp only [opW, kindW, List.cons_append, List.cons.injEq] at this
      exact absurd this.1 (by decide +kernel)
  | p :: r, [], os, os', c, _, _, b, e => by
    cases os' with
    | nil => cases e
    | cons o os' =>
      simp only [pageL, List.map_nil, List.nil_append, List.map_cons, List.cons_append, List.cons.injEq] at e
      have := line_inj (by simp [kindW]) (by simp [opW]) (kindW_wd h1 (c p (List.mem_cons_self ..))) (opW_wd h2 (b o (List.mem_cons_self ..))) e.1
      simp only [opW, kindW, List.cons_append, List.cons.injEq] at this
      exact absurd this.1 (by decide +kernel)
  | p :: r, p' :: r', os, os', c, d, a, b, e => by
    simp only [pageL, List.map_cons, List.cons_append, List.cons.injEq] at e
    have hp := c p (List.mem_cons_self ..)
    have hp' := d p' (List.mem_cons_self ..)
    have n1 := h1.num p hp
    have n2 := h2.num p' hp'
    have := line_inj (by simp [kindW]) (by simp [kindW]) (kindW_wd h1 hp) (kindW_wd h2 hp') e.1
    simp only [kindW, List.cons.injEq, true_and, and_true] at this
    obtain ⟨pw, pn⟩ := p
    obtain ⟨qw, qn⟩ := p'
    obtain ⟨e1, e2⟩ := this
    have f1 : pw = qw := e1
    have f2 : pn = qn := num_inj (show 0 ≤ pn by have : 1 ≤ pn := n1.1; omega) (show pn < 4 by have : pn ≤ 3 := n1.2; omega) (show 0 ≤ qn by have : 1 ≤ qn := n2.1; omega) (show qn < 4 by have : qn ≤ 3 := n2.2; omega) e2
    subst f1
    subst f2
    obtain ⟨x, y⟩ := pageL_inj h1 h2 (ks := r) (ks' := r') (os := os) (os' := os') (fun x hx => c x (List.mem_cons_of_mem _ hx)) (fun x hx => d x (List.mem_cons_of_mem _ hx)) a b e.2
    rw [x, y]
    exact ⟨rfl, rfl⟩
/-- unlike books have unlike texts -/
theorem page_inj {ks ks' : List (Str × Int)} {os os' : List Opn} (h1 : KsOk ks) (h2 : KsOk ks') (a : OsOk ks os) (b : OsOk ks' os') (e : page ks os = page ks' os') : ks = ks' ∧ os = os' := by
  have := split_pg h1 a
  rw [e, split_pg h2 b] at this
  exact pageL_inj h1 h2 (fun _ h => h) (fun _ h => h) a.each b.each this.symm
end K09

set_option Elab.async false
set_option linter.all false
set_option maxRecDepth 100000
set_option maxHeartbeats 4000000
/-! == of books. -/
namespace K09
open PySem PySem.Spec PyProof.Rows L2 Mine TL SkE StX
abbrev sEq : Stmt := inClass (top 34) 1
theorem kd_dp {K : PySem.W.Frag} {H : Hp} : ∀ {ps : List Addr} {ks : List (Str × Int)}, Paired (fun a p => SqT K H a [.str p.1, .int p.2]) ps ks → DpAll K H (ps.map V.ref) (ks.map kD)
  | _, _, .nil => .nil
  | _, _, .cons h r => .cons (.tup h (.cons (.str _) (.cons (.int _) .nil))) (kd_dp r)
theorem nd_dp {K : PySem.W.Frag} {H : Hp} {x : Addr} {n : Nd} (h : SqT K H x (ndV n)) : Dp K H (.ref x) (ndD n) := by
  cases n with
  | part j => exact .tup h (.cons (.str _) (.cons (.int _) .nil))
  | around c j => exact .tup h (.cons (.str _) (.cons (.str _) (.cons (.int _) .nil)))
  | inside j c => exact .tup h (.cons (.str _) (.cons (.int _) (.cons (.str _) .nil)))
theorem nds_dp {K : PySem.W.Frag} {H : Hp} : ∀ {bs : List Addr} {nn : List Nd}, Paired (fun x n => SqT K H x (ndV n)) bs nn → DpAll K H (bs.map V.ref) (nn.map ndD)
  | _, _, .nil => .nil
  | _, _, .cons h r => .cons (nd_dp h) (nds_dp r)
theorem ops_dp {K : PySem.W.Frag} {H : Hp} : ∀ {as : List Addr} {os : List Opn}, Paired (OpnAt K H) as os → DpAll K H (as.map V.ref) (os.map opD)
  | _, _, .nil => .nil
  | _, _, .cons ⟨b, bs, h1, h2, h3⟩ r => .cons (.tup h1 (.cons (.str _) (.cons (.str _) (.cons (.int _) (.cons (.tup h2 (nds_dp h3)) .nil))))) (ops_dp r)
mutual
theorem eqv_me : ∀ d : PyData, d.canLay0 = true → PyData.eqv d d = true
  | .none, _ => by simp [PyData.eqv]
  | .bool b, _ => by simp [PyData.eqv]
  | .int i, _ => by simp [PyData.eqv]
  | .str x, _ => by simp [PyData.eqv]
  | .list ds, h => by
    simp only [PyData.canLay0] at h
    simp only [PyData.eqv]
    exact eqvs_me ds h
  | .tuple ds, h => by
    simp only [PyData.canLay0] at h
    simp only [PyData.eqv]
    exact eqvs_me ds h
  | .dict kvs, h => by simp [PyData.canLay0] at h
theorem eqvs_me : ∀ ds : List PyData, PyData.canLayAll0 ds = true → PyData.eqvAll ds ds = true
  | [], _ => by simp [PyData.eqvAll]
  | d :: ds, h => by
    have h' : d.canLay0 = true ∧ PyData.canLayAll0 ds = true := by simpa [PyData.canLayAll0] using h
    simp only [PyData.eqvAll, Bool.and_eq_true]
    exact ⟨eqv_me d h'.1, eqvs_me ds h'.2⟩
end
theorem ww_ok : ∀ x ∈ WW, PyData.strOk x = true := by decide +kernel
theorem ks_lay {ks : List (Str × Int)} (h : KsOk ks) : PyData.canLay0 (.tuple (ks.map kD)) = true := by
  simp only [PyData.canLay0]
  exact kds_lay ks fun p hp => ww_ok _ (h.ww p hp)
theorem ks_sh {ks : List (Str × Int)} (h : KsOk ks) : SeqAt.shaped (.tuple (ks.map kD)) = true := by
  show (PyData.canLay0 _ && decide (PyData.depth _ ≤ 64)) = true
  rw [Bool.and_eq_true]
  refine ⟨ks_lay h, decide_eq_true ?_⟩
  have := kds_dep ks
  simp only [PyData.depth]
  omega
theorem nd_lay {m : Int} {ks : List (Str × Int)} {n : Nd} (h : NdOk m ks n) (kw : ∀ p ∈ ks, p.1 ∈ WW) : PyData.canLay0 (ndD n) = true ∧ PyData.depth (ndD n) ≤ 1 := by
  cases n with
  | part j => exact ⟨by simp only [ndD, PyData.canLay0, PyData.canLayAll0, Bool.and_eq_true]; exact ⟨by decide +kernel, trivial, trivial⟩, by simp [ndD, PyData.depth, PyData.depthAll]⟩
  | around c j => exact ⟨by simp only [ndD, PyData.canLay0, PyData.canLayAll0, Bool.and_eq_true]; exact ⟨by decide +kernel, ww_ok _ (kw _ h.1), trivial, trivial⟩, by simp [ndD, PyData.depth, PyData.depthAll]⟩
  | inside j c => exact ⟨by simp only [ndD, PyData.canLay0, PyData.canLayAll0, Bool.and_eq_true]; exact ⟨by decide +kernel, trivial, ww_ok _ (kw _ h.1), trivial⟩, by simp [ndD, PyData.depth, PyData.depthAll]⟩
theorem all_lay {ds : List PyData} {n : Nat} (h : ∀ d ∈ ds, PyData.canLay0 d = true ∧ PyData.depth d ≤ n) : PyData.canLayAll0 ds = true ∧ PyData.depthAll ds ≤ n := by
  induction ds with
  | nil => simp [PyData.canLayAll0, PyData.depthAll]
  | cons d ds ih =>
    obtain ⟨a, b⟩ := h d (List.mem_cons_self ..)
    obtain ⟨c, e⟩ := ih fun x hx => h x (List.mem_cons_of_mem _ hx)
    refine ⟨by simp only [PyData.canLayAll0, a, c]; rfl, ?_⟩
    simp only [PyData.depthAll]
    omega
theorem op_lay {ks : List (Str × Int)} {o : Opn} (h : OpnOk ks o) (kw : ∀ p ∈ ks, p.1 ∈ WW) : PyData.canLay0 (opD o) = true ∧ PyData.depth (opD o) ≤ 3 := by
  obtain ⟨m, hm, _, _, _, hn⟩ := h.ex
  obtain ⟨a, b⟩ := all_lay (n := 1) (ds := o.nn.map ndD) fun d hd => by
    obtain ⟨n, hn1, rfl⟩ := List.mem_map.mp hd
    exact nd_lay (hn n hn1) kw
  refine ⟨?_, ?_⟩
  · simp only [opD, PyData.canLay0, PyData.canLayAll0, Bool.and_eq_true]
    exact ⟨ww_ok _ h.ww, ww_ok _ (kw _ hm), trivial, a, trivial⟩
  · simp only [opD, PyData.depth, PyData.depthAll]
    omega
theorem os_lay {ks : List (Str × Int)} {os : List Opn} (hk : KsOk ks) (h : OsOk ks os) : PyData.canLay0 (.tuple (os.map opD)) = true ∧ SeqAt.shaped (.tuple (os.map opD)) = true := by
  obtain ⟨a, b⟩ := all_lay (n := 3) (ds := os.map opD) fun d hd => by
    obtain ⟨o, ho, rfl⟩ := List.mem_map.mp hd
    exact op_lay (h.each o ho) hk.ww
  have l : PyData.canLay0 (.tuple (os.map opD)) = true := by
    simp only [PyData.canLay0]
    exact a
  refine ⟨l, ?_⟩
  show (PyData.canLay0 _ && decide (PyData.depth _ ≤ 64)) = true
  rw [Bool.and_eq_true]
  refine ⟨l, decide_eq_true ?_⟩
  simp only [PyData.depth]
  omega
/-- a book that stands -/
structure BkAt (K : PySem.W.Frag) (C : Addr) (H : Hp) (x : Addr) (ks : List (Str × Int)) (os : List Opn) : Prop where
  ex : ∃ (dx kk oo : Addr) (ps as : List Addr), H x = some (.ins C dx (fsB kk oo)) ∧ KindsAt K H kk ps ks ∧ OpnsAt K H oo as os
  kok : KsOk ks
  ook : OsOk ks os
theorem BkAt.same {K : PySem.W.Frag} {C : Addr} {H H' : Hp} {x : Addr} {ks : List (Str × Int)} {os : List Opn} (b : BkAt K C H x ks os) (k : Same H H') : BkAt K C H' x ks os :=
  let ⟨dx, kk, oo, ps, as, h1, h2, h3⟩ := b.ex
  ⟨⟨dx, kk, oo, ps, as, k _ _ h1, h2.same k, h3.same k⟩, b.kok, b.ook⟩
def Alike (K : PySem.W.Frag) (C : Addr) (a b : Addr) (H : Hp) : Prop := ∃ ks os, BkAt K C H a ks os ∧ BkAt K C H b ks os
/-- what the class must have to be asked for -/
structure TxtEq (K : PySem.W.Frag) (mg : Str → Option Value) (C : Addr) : Prop where
  cl : Cls K C
  nK : NoAttr K C "kinds"
  nO : NoAttr K C "openings"
  isi : mg "isinstance" = none
  gB : mg "Book" = some (.ref C)
  ha : PySem.W.findIn K (.ref C) "__class__" = some (some (.builtin "object.__class__"))
  hn : PySem.W.specialIn K (.builtin "object.__class__") "__get__" = some (some (.builtin "getset_descriptor.__get__"))
  ht : PySem.W.takesIn K (.builtin "object.__class__") = some true
  hm : PySem.W.mroIn K C (.type "object") = some true
theorem kit_me {K : PySem.W.Frag} {C : Addr} : PySem.W.kitOne K (.ref C) (.ref C) = some true := by
  unfold PySem.W.kitOne
  rw [if_pos (beq_self_eq_true _)]
section
variable {P : Program} {w : World} {K : PySem.W.Frag} {mg : Str → Option Value} {base : Heap}
theorem scEq : FnScope ["self", "other"] ["self", "other"] (defScope sEq) := ⟨rfl, rfl, rfl, by decide +kernel, rfl, by decide +kernel, by decide +kernel⟩
theorem ok_eq {f C : Addr} {fd : FuncData} (F : Fun K "__eq__" "Book.__eq__" sEq f fd) (T : TxtEq K mg C) : FnOk P w K mg base CX0 1 f fd ["self", "other"] (spEq (Alike K C)) := by
  refine F.ok scEq (fun vs H Q E h => ?_) (fun cdv A outer s H vs Q E hr h => ?_)
  · obtain ⟨_, _, rfl, _⟩ := h
    rfl
  · obtain ⟨a, b, rfl, ⟨ks, os, A1, B1⟩, k⟩ := h
    obtain ⟨dx, kk, oo, ps, as, ha, hk, hO⟩ := A1.ex
    obtain ⟨dy, kk', oo', ps', as', hb, hk', hO'⟩ := B1.ex
    refine ⟨_, pss_one (ps_ret (pe_and (pe_callB call_isi (by rfl) T.isi (by decide +kernel) (pa_cons (pv 1) (pa_cons (pe_glob (v := .ref C) rfl T.gB rfl) pa_nil)))
      (pe_and (pe_cmpR (op_eqD hr.units) (pe_fld (pv 0) rfl) (pe_fld (pv 1) rfl) (nomark _)) (pe_one (pe_cmpR (op_eqD hr.units) (pe_fld (pv 0) rfl) (pe_fld (pv 1) rfl) (nomark _)))))), ?_⟩
    have e1 := eqv_me _ (ks_lay A1.kok)
    obtain ⟨ol, osh⟩ := os_lay A1.kok A1.ook
    have e2 := eqv_me _ ol
    refine ⟨_, rfl, _, _, _, _, true, rfl, .own C, .base (.ins hb T.cl T.ha T.hn T.ht T.hm), kit_me, _, rfl, ite2 (fun _ => ?_) (fun z => absurd rfl z)⟩
    refine ⟨_, rfl, a, C, dx, _, _, rfl, ha, T.cl, T.nK, rfl, _, rfl, b, C, dy, _, _, rfl, hb, T.cl, T.nK, rfl, _, _, .tup hk.at_.sq (kd_dp hk.each), .tup hk'.at_.sq (kd_dp hk'.each), ks_sh A1.kok, ks_sh A1.kok, _, rfl, ite2 (fun _ => ?_) (fun z => absurd e1 z)⟩
    refine ⟨_, rfl, a, C, dx, _, _, rfl, ha, T.cl, T.nO, rfl, _, rfl, b, C, dy, _, _, rfl, hb, T.cl, T.nO, rfl, _, _, .tup hO.at_ (ops_dp hO.each), .tup hO'.at_ (ops_dp hO'.each), osh, osh, ?_⟩
    rw [e2]
    exact k _ fun _ _ e => e
end
end K09

set_option Elab.async false
set_option linter.all false
set_option maxRecDepth 100000
set_option maxHeartbeats 4000000
/-! Drawn things as data. -/
namespace K09
open PySem PySem.Spec PyProof.Rows L2 Mine TL
/-- the words and names that drawn things have as leaves -/
def LV : List Str := [PySem.Str.ofString "a", PySem.Str.ofString "b", PySem.Str.ofString "K", PySem.Str.ofString "L", PySem.Str.ofString "K1", PySem.Str.ofString "half", PySem.Str.ofString "Zz", PySem.Str.ofString "N", PySem.Str.ofString "Q", PySem.Str.ofString "Q9"]
mutual
def drawn : PyData → Bool
  | .str x => decide (x ∈ LV)
  | .tuple (.str c :: d :: ds) => decide (c ∈ W8) && drawn d && drawns ds
  | _ => false
def drawns : List PyData → Bool
  | [] => true
  | d :: ds => drawn d && drawns ds
end
theorem drawns_iff {ds : List PyData} : drawns ds = true ↔ ∀ d ∈ ds, drawn d = true := by
  induction ds with
  | nil => simp [drawns]
  | cons d ds ih => simp only [drawns, Bool.and_eq_true, ih, List.mem_cons, forall_eq_or_imp]
theorem drawn_cases {d : PyData} (h : drawn d = true) : (∃ c, d = .str c ∧ c ∈ LV) ∨ ∃ c ps, d = .tuple (.str c :: ps) ∧ ps ≠ [] ∧ c ∈ W8 ∧ ∀ p ∈ ps, drawn p = true := by
  cases d with
  | str c => exact .inl ⟨c, rfl, by simpa [drawn] using h⟩
  | tuple ds =>
    match ds, h with
    | .str c :: p :: ps, h =>
      have h' : (c ∈ W8 ∧ drawn p = true) ∧ drawns ps = true := by simpa [drawn] using h
      refine .inr ⟨c, p :: ps, rfl, List.cons_ne_nil _ _, h'.1.1, fun x hx => ?_⟩
      rcases List.mem_cons.mp hx with rfl | hx
      · exact h'.1.2
      · exact drawns_iff.mp h'.2 x hx
    | [], h => simp [drawn] at h
    | [x], h => cases x <;> simp [drawn] at h
    | .none :: _ :: _, h => simp [drawn] at h
    | .bool _ :: _ :: _, h => simp [drawn] at h
    | .int _ :: _ :: _, h => simp [drawn] at h
    | .list _ :: _ :: _, h => simp [drawn] at h
    | .tuple _ :: _ :: _, h => simp [drawn] at h
    | .dict _ :: _ :: _, h => simp [drawn] at h
  | none => simp [drawn] at h
  | bool _ => simp [drawn] at h
  | int _ => simp [drawn] at h
  | list _ => simp [drawn] at h
  | dict _ => simp [drawn] at h
theorem drawn_tup {c : Str} {ps : List PyData} (hc : c ∈ W8) (ne : ps ≠ []) (h : ∀ p ∈ ps, drawn p = true) : drawn (.tuple (.str c :: ps)) = true := by
  cases ps with
  | nil => exact absurd rfl ne
  | cons p ps =>
    simp only [drawn, Bool.and_eq_true, decide_eq_true_eq]
    exact ⟨⟨hc, h p (List.mem_cons_self ..)⟩, drawns_iff.mpr fun x hx => h x (List.mem_cons_of_mem _ hx)⟩
theorem drawn_str {x : Str} (h : x ∈ LV) : drawn (.str x) = true := by simpa [drawn] using h
theorem lv_okS : ∀ x ∈ LV, okS x = true := by decide +kernel
theorem w8_okS : ∀ x ∈ W8, okS x = true := by decide +kernel
theorem lv_len : ∀ x ∈ LV, x.length ≤ 8 := by decide +kernel
theorem w8_len : ∀ x ∈ W8, x.length ≤ 8 := by decide +kernel
theorem lv_cps : ∀ x ∈ LV, ∀ c ∈ x.cps.toList, c < 0x110000 := by decide +kernel
theorem lv_shown : ∀ x ∈ LV, (PyData.shown (.str x)).length ≤ 10 := by decide +kernel
theorem w8_shown : ∀ x ∈ W8, (PyData.shown (.str x)).length ≤ 10 := by decide +kernel
theorem sz_str (c : Str) : sz (.str c) = 1 := by simp [sz, lot]
theorem sz_tup (c : Str) (ps : List PyData) : sz (.tuple (.str c :: ps)) = 1 + (ps.map sz).sum := by
  unfold sz
  rw [lot_eq, List.length_cons]
  show (ps.flatMap lot).length + 1 = _
  rw [List.length_flatMap]
  omega
theorem drawn_thing : ∀ (n : Nat) (d : PyData), sz d ≤ n → drawn d = true → thW d = true
  | 0, d, hn, _ => by have := sz_pos d; omega
  | n + 1, d, hn, h => by
    rcases drawn_cases h with ⟨c, rfl, hc⟩ | ⟨c, ps, rfl, ne, hc, hp⟩
    · simpa only [thW] using lv_okS c hc
    · cases ps with
      | nil => exact absurd rfl ne
      | cons p ps =>
        have all : ∀ q ∈ p :: ps, thW q = true := fun q hq => drawn_thing n q (by have : sz q + 1 ≤ sz (.tuple (.str c :: p :: ps)) := kid_sz (show q ∈ kids (.tuple (.str c :: p :: ps)) from hq); omega) (hp q hq)
        simp only [thW, w8_okS c hc, all p (List.mem_cons_self ..), thWs_iff.mpr fun x hx => all x (List.mem_cons_of_mem _ hx)]
        rfl
theorem sums {ps : List PyData} {f g : PyData → Nat} (h : ∀ p ∈ ps, f p ≤ g p) : (ps.map f).sum ≤ (ps.map g).sum := by
  induction ps with
  | nil => exact Nat.le_refl _
  | cons p ps ih =>
    have := h p (List.mem_cons_self ..)
    have := ih fun q hq => h q (List.mem_cons_of_mem _ hq)
    simp only [List.map_cons, List.sum_cons]
    omega
theorem sum_mul (k : Nat) (ps : List PyData) : (ps.map fun p => k * sz p).sum = k * (ps.map sz).sum := by
  induction ps with
  | nil => rfl
  | cons p ps ih => simp only [List.map_cons, List.sum_cons, ih, Nat.mul_add]
theorem sum_add (k : Nat) (f : PyData → Nat) (ps : List PyData) : (ps.map fun p => f p + k).sum = (ps.map f).sum + k * ps.length := by
  induction ps with
  | nil => rfl
  | cons p ps ih =>
    simp only [List.map_cons, List.sum_cons, ih, List.length_cons, Nat.mul_add]
    omega
theorem drawn_txt : ∀ (n : Nat) (d : PyData), sz d ≤ n → drawn d = true → (txt d).length + 1 ≤ 11 * sz d
  | 0, d, hn, _ => by have := sz_pos d; omega
  | n + 1, d, hn, h => by
    rcases drawn_cases h with ⟨c, rfl, hc⟩ | ⟨c, ps, rfl, ne, hc, hp⟩
    · have := lv_len c hc
      rw [txt_str, sz_str]
      omega
    · have all : ∀ q ∈ ps, (txt q).length + 1 ≤ 11 * sz q := fun q hq => drawn_txt n q (by have : sz q + 1 ≤ sz (.tuple (.str c :: ps)) := kid_sz (show q ∈ kids (.tuple (.str c :: ps)) from hq); omega) (hp q hq)
      have s1 := sums all
      rw [sum_mul, sum_add 1 (fun q => (txt q).length)] at s1
      have cl := w8_len c hc
      have comma1 : (PySem.Str.ofString ",").length = 1 := by decide +kernel
      have o1 : (PySem.Str.ofString "(").length = 1 := by decide +kernel
      have o2 : (PySem.Str.ofString ")").length = 1 := by decide +kernel
      have jl := join_len (y := PySem.Str.ofString ",") (ps := ps.map txt) (by simpa using ne)
      rw [comma1, List.map_map, List.length_map] at jl
      have e : (List.map ((fun x => x.length) ∘ txt) ps) = ps.map fun q => (txt q).length := rfl
      rw [e] at jl
      rw [txt_tup, sz_tup, strLen_append, strLen_append, strLen_append, o1, o2]
      omega
theorem shownAll_eq (ds : List PyData) : PyData.shownAll ds = ds.map PyData.shown := by
  induction ds with
  | nil => simp [PyData.shownAll]
  | cons d ds ih => simp [PyData.shownAll, ih]
theorem showableAll_iff {ds : List PyData} : PyData.showableAll ds = true ↔ ∀ d ∈ ds, d.showable = true := by
  induction ds with
  | nil => simp [PyData.showableAll]
  | cons d ds ih => simp only [PyData.showableAll, Bool.and_eq_true, ih, List.mem_cons, forall_eq_or_imp]
theorem drawn_show : ∀ (n : Nat) (d : PyData), sz d ≤ n → drawn d = true → d.showable = true ∧ (PyData.shown d).length + 2 ≤ 30 * sz d
  | 0, d, hn, _ => by have := sz_pos d; omega
  | n + 1, d, hn, h => by
    rcases drawn_cases h with ⟨c, rfl, hc⟩ | ⟨c, ps, rfl, ne, hc, hp⟩
    · have := lv_shown c hc
      rw [sz_str]
      exact ⟨by simp [PyData.showable], by omega⟩
    · have all : ∀ q ∈ ps, q.showable = true ∧ (PyData.shown q).length + 2 ≤ 30 * sz q := fun q hq => drawn_show n q (by have : sz q + 1 ≤ sz (.tuple (.str c :: ps)) := kid_sz (show q ∈ kids (.tuple (.str c :: ps)) from hq); omega) (hp q hq)
      refine ⟨?_, ?_⟩
      · simp only [PyData.showable, PyData.showableAll, Bool.true_and]
        exact showableAll_iff.mpr fun q hq => (all q hq).1
      · have s1 := sums fun q hq => (all q hq).2
        rw [sum_mul, sum_add 2 (fun q => (PyData.shown q).length)] at s1
        have h1 := tupleText_len_le (PyData.shownAll (.str c :: ps))
        have cl := w8_shown c hc
        rw [shownAll_eq, List.map_map, List.length_map, List.length_cons] at h1
        simp only [List.map_cons, List.sum_cons] at h1
        have e : (List.map ((fun x => x.length) ∘ PyData.shown) ps) = ps.map fun q => (PyData.shown q).length := rfl
        rw [e] at h1
        rw [sz_tup]
        simp only [PyData.shown]
        rw [shownAll_eq]
        simp only [List.map_cons]
        have : ((fun x : Str => x.length) ∘ PyData.shown) (.str c) = (PyData.shown (.str c)).length := rfl
        omega
theorem drawn_lot : ∀ (n : Nat) (d : PyData), sz d ≤ n → drawn d = true → ∀ p ∈ lot d, drawn p = true ∧ sz p ≤ sz d ∧ PyData.depth p ≤ PyData.depth d
  | 0, d, hn, _ => by have := sz_pos d; omega
  | n + 1, d, hn, h => by
    intro p hp
    rw [lot_eq] at hp
    rcases List.mem_cons.mp hp with rfl | hp
    · exact ⟨h, Nat.le_refl _, Nat.le_refl _⟩
    · obtain ⟨q, hq, hp2⟩ := List.mem_flatMap.mp hp
      rcases drawn_cases h with ⟨c, rfl, hc⟩ | ⟨c, ps, rfl, ne, hc, hpp⟩
      · exact (List.not_mem_nil hq).elim
      · have qs := kid_sz hq
        obtain ⟨a, b, e⟩ := drawn_lot n q (by omega) (hpp q hq) p hp2
        have dq : PyData.depth q ≤ PyData.depth (.tuple (.str c :: ps)) := by
          have := kid_depth (n := PyData.depth (.tuple (.str c :: ps)) - 1) hq (by omega)
          omega
        exact ⟨a, by omega, by omega⟩
mutual
/-- of kinds with their numbers of parts -/
def fitK (ks : List (Str × Int)) : PyData → Bool
  | .str _ => true
  | .tuple (.str c :: ds) => decide ((c, (ds.length : Int)) ∈ ks) && fitKs ks ds
  | _ => false
def fitKs (ks : List (Str × Int)) : List PyData → Bool
  | [] => true
  | d :: ds => fitK ks d && fitKs ks ds
end
theorem fitKs_iff {ks : List (Str × Int)} {ds : List PyData} : fitKs ks ds = true ↔ ∀ d ∈ ds, fitK ks d = true := by
  induction ds with
  | nil => simp [fitKs]
  | cons d ds ih => simp only [fitKs, Bool.and_eq_true, ih, List.mem_cons, forall_eq_or_imp]
theorem fitK_tup {ks : List (Str × Int)} {c : Str} {ds : List PyData} : fitK ks (.tuple (.str c :: ds)) = true ↔ (c, (ds.length : Int)) ∈ ks ∧ ∀ d ∈ ds, fitK ks d = true := by
  simp only [fitK, Bool.and_eq_true, decide_eq_true_eq, fitKs_iff]
theorem fitK_str {ks : List (Str × Int)} {x : Str} : fitK ks (.str x) = true := by simp only [fitK]
theorem lv_isWN : ∀ x ∈ LV, (isW x || isN x) = true := by decide +kernel
theorem w8_isW : ∀ x ∈ W8, isW x = true := by decide +kernel
end K09

set_option Elab.async false
set_option linter.all false
set_option maxRecDepth 100000
set_option maxHeartbeats 4000000
/-! A drawn thing. -/
namespace K09
open PySem PySem.Spec PyProof.Rows L2 Mine TL
abbrev sThing : Stmt := top 52
structure MakesAt (H : Hp) (mk : Addr) (ms : List V) (ks : List (Str × Int)) : Prop where
  at_ : Fz H mk ms
  ok : DKs H ms (ks.map kD)
  sub : (ks.map (·.1)).Sublist W8
  num : ∀ p ∈ ks, 1 ≤ p.2 ∧ p.2 ≤ 3
theorem Keep.tup {dk dl a : Addr} {H H' : Hp} {t : Int} {xs : List V} (k : Keep dk dl H H') (h : DeckAt H dk dl t) (e : H a = some (.tup xs)) : H' a = some (.tup xs) := by
  obtain ⟨⟨m, h1, _⟩, ⟨cs, h2, _⟩⟩ := h
  exact k _ _ (ne_of e h1 (by intro z; cases z)) (ne_of e h2 (by intro z; cases z)) e
theorem Keep.fz {dk dl a : Addr} {H H' : Hp} {t : Int} {xs : List V} (k : Keep dk dl H H') (h : DeckAt H dk dl t) (e : Fz H a xs) : Fz H' a xs := by
  obtain ⟨⟨m, h1, _⟩, ⟨cs, h2, _⟩⟩ := h
  obtain ⟨o, e, d⟩ := e
  exact ⟨o, k _ _ (ne_of e h1 (by intro z; cases z)) (ne_of e h2 (by intro z; cases z)) e, d⟩
theorem MakesAt.keep {dk dl mk : Addr} {H H' : Hp} {t : Int} {ms : List V} {ks : List (Str × Int)} (M : MakesAt H mk ms ks) (h : DeckAt H dk dl t) (k : Keep dk dl H H') : MakesAt H' mk ms ks :=
  ⟨k.fz h M.at_, kds_keeps (fun _ _ e => k.tup h e) _ _ M.ok, M.sub, M.num⟩
theorem MakesAt.len {H : Hp} {mk : Addr} {ms : List V} {ks : List (Str × Int)} (M : MakesAt H mk ms ks) : ms.length = ks.length ∧ ks.length ≤ 8 := by
  refine ⟨by have := M.ok.len; rwa [List.length_map] at this, ?_⟩
  have := M.sub.length_le
  rw [List.length_map] at this
  exact this
theorem Keep.kt {K : PySem.W.Frag} {dk dl : Addr} {H H' : Hp} {t : Int} (k : Keep dk dl H H') (h : DeckAt H dk dl t) : KT K H H' := fun a xs e => by
  rcases e with (e | ⟨o, e⟩) | e
  · exact .inl (.inl (k.tup h e))
  · obtain ⟨⟨m, h1, _⟩, ⟨cs, h2, _⟩⟩ := h
    exact .inl (.inr ⟨o, k _ _ (ne_of e h1 (by intro z; cases z)) (ne_of e h2 (by intro z; cases z)) e⟩)
  · exact .inr e
theorem depth_all {ds : List PyData} {n : Nat} (h : ∀ d ∈ ds, PyData.depth d ≤ n) : PyData.depthAll ds ≤ n := by
  induction ds with
  | nil => simp [PyData.depthAll]
  | cons d ds ih =>
    have h1 := h d (List.mem_cons_self ..)
    have h2 := ih fun x hx => h x (List.mem_cons_of_mem _ hx)
    simp only [PyData.depthAll]
    omega
theorem drawn_ths {ds : List PyData} (h : ∀ d ∈ ds, drawn d = true) : thingAll ds = true := thingAll_iff.mpr fun d hd => thW_thing _ d (Nat.le_refl _) (drawn_thing _ d (Nat.le_refl _) (h d hd))
theorem drawn_th {d : PyData} (h : drawn d = true) : thing d = true := thW_thing _ d (Nat.le_refl _) (drawn_thing _ d (Nat.le_refl _) h)
def spThing (K : PySem.W.Frag) (n : Nat) : Sp := fun vs H Q _ => ∃ (dk dl mk lf : Addr) (t : Int) (top : Nat) (ms : List V) (ks : List (Str × Int)) (lvs : List Str), vs = [.ref dk, .ref mk, .ref lf, .int (top : Int), .int (n : Int)] ∧ DeckAt H dk dl t ∧ MakesAt H mk ms ks ∧
  lf ≠ dl ∧ H lf = some (.lst (lvs.map V.str)) ∧ (∀ x ∈ lvs, x ∈ LV) ∧ lvs ≠ [] ∧ lvs.length ≤ 9 ∧ 1 ≤ top ∧ top ≤ 30 ∧ 0 ≤ t ∧ t + 5 * (top : Int) ≤ 50000 ∧
  ∀ (v : V) (d : PyData) (t' : Int) (H' : Hp), DeckAt H' dk dl t' → t ≤ t' → t' ≤ t + 5 * (top : Int) → Keep dk dl H H' → Dp K H' v d → drawn d = true → sz d ≤ top → PyData.depth d ≤ n → fitK ks d = true → Q v H'
structure TxtT (K : PySem.W.Frag) (mg : Str → Option Value) (fD fP fT : Addr) : Prop extends TxtP K mg fD fP where
  range : mg "range" = none
  gT : mg "_law_thing" = some (.ref fT)
  kT : PySem.W.keepIn K (.ref fT) = true
abbrev nThing : List Str := ["_law_deck_here", "_law_makes", "_law_leaves", "_law_top", "_law_deep", "_law_fit", "_law_item", "_law_word", "_law_many", "_law_found", "_law_left", "_law_k", "_law_own"]
section
variable {P : Program} {w : World} {K : PySem.W.Frag} {mg : Str → Option Value} {base : Heap}
theorem scThing : FnScope nThing ["_law_deck_here", "_law_makes", "_law_leaves", "_law_top", "_law_deep"] (defScope sThing) := ⟨rfl, rfl, rfl, by decide +kernel, rfl, by decide +kernel, by decide +kernel⟩
theorem ok_thing {j n : Nat} {f fD fP : Addr} {fd fdD fdP : FuncData} {sp' : Sp} (F : Fun K "_law_thing" "_law_thing" sThing f fd) (GD : FnOk P w K mg base CX0 1 fD fdD ["_law_deck_here", "_law_below"] spDraw) (bD : Binds K fdD ["_law_deck_here", "_law_below"] [])
    (GP : FnOk P w K mg base CX0 2 fP fdP ["_law_deck_here", "_law_some"] spPick) (bP : Binds K fdP ["_law_deck_here", "_law_some"] []) (bT : Binds K fd ["_law_deck_here", "_law_makes", "_law_leaves", "_law_top", "_law_deep"] [])
    (T : TxtT K mg fD fP f) (G : FnOk P w K mg base CX0 (j + 2) f fd ["_law_deck_here", "_law_makes", "_law_leaves", "_law_top", "_law_deep"] sp') (hG : ∀ m, n = m + 1 → ∀ vs H Q E, spThing K m vs H Q E → sp' vs H Q E) :
    FnOk P w K mg base CX0 (j + 3) f fd ["_law_deck_here", "_law_makes", "_law_leaves", "_law_top", "_law_deep"] (spThing K n) := by
  refine F.ok scThing (fun vs H Q E h => ?_) (fun cdv A outer s H vs Q E hr h => ?_)
  · obtain ⟨dk, dl, mk, lf, t, top, ms, ks, lvs, rfl, _⟩ := h
    rfl
  · obtain ⟨dk, dl, mk, lf, t, top, ms, ks, lvs, rfl, hD, M, hlf, eL, lsub, lne, l9, top1, top6, t0, t1, k⟩ := h
    have hu := hu_of hr
    have hr1 : Room 1 _ := hr.mono (by omega)
    have hr2 : Room 2 _ := hr.mono (by omega)
    refine ⟨_, pss_cons (ps_setLc (i := 5) (own := [("_law_item", 6)]) (g := gName 6) rfl scThing.nd rfl rfl (sw_true rfl rfl rfl (by decide +kernel)) (pi_tup (pv 1))
        (blkOk_by (own := [("_law_item", 6)]) (N := nThing) (sc := defScope sThing) (by decide +kernel))
        (fun _ _ _ _ _ => pg_name (i := 6) scThing.nd rfl (Or.inl rfl)) (fun _ _ _ _ _ => pts_one (PW.pt (pw_and (pt_cmpR op_lt (pe_ix (show IxR _ (rIxT K) from ix_tup) (pv 6) pe_int (fun _ _ => rfl)) (pv 3) (nomark _)) (pw_and1 (pt_cmpR op_gt (pv 4) pe_int (nomark _)))))) (fun _ _ _ _ _ => pv 6))
      (pss_cons (ps_if (PW.pt (pw_or (pt_cmpR (op_eqD hr.units) (pv 5) (pe_lst pa_nil) (nomark _)) (pw_or1 (pt_cmpR op_eq (pe_call GD hr1 rfl T.gD T.kD bD .nil pass0 (pa_cons (pv 0) (pa_cons pe_int pa_nil))) pe_int (nomark _)))))
          (pss_one (ps_ret (pe_call GP hr2 rfl T.gP T.kP bP .nil pass0 (pa_cons (pv 0) (pa_cons (pv 2) pa_nil))))) pss_nil)
      (pss_cons (ps_asg (pe_call GP hr2 rfl T.gP T.kP bP .nil pass0 (pa_cons (pv 0) (pa_cons (pv 5) pa_nil))) (pg_tup rfl (pgs_cons (pg_name (i := 7) scThing.nd rfl (.inl rfl)) (pgs_cons (pg_name (i := 8) scThing.nd rfl (.inl rfl)) pgs_nil))))
      (pss_cons (ps_par (i := 9) (j := 10) rfl scThing.nd rfl rfl (by decide) rfl rfl (pa_cons (pe_tup (pa_cons (pv 7) pa_nil)) (pa_cons (pe_op op_sub (pv 3) pe_int) pa_nil)) (by rfl))
      (pss_cons (ps_for PassesOwn.never rfl (pi_range1 rfl T.range (pa_cons (pv 8) pa_nil)) (pg_name (i := 11) scThing.nd rfl (.inl rfl))
        (pss_cons (ps_set (i := 12) scThing.nd rfl (.inl rfl) (pe_op op_add pe_int (pe_call GD hr1 rfl T.gD T.kD bD .nil pass0 (pa_cons (pv 0) (pa_cons (pe_op op_sub (pv 10) (pe_op op_sub (pe_op op_sub (pv 8) (pv 11)) pe_int)) pa_nil)))))
        (pss_one (ps_par (i := 9) (j := 10) rfl scThing.nd rfl rfl (by decide) rfl rfl (pa_cons (pe_op op_catT (pv 9) (pe_tup (pa_cons (pe_call G hr rfl T.gT T.kT bT .nil pass0 (pa_cons (pv 0) (pa_cons (pv 1) (pa_cons (pv 2) (pa_cons (pv 12) (pa_cons (pe_op op_sub (pv 4) pe_int) pa_nil)))))) pa_nil))) (pa_cons (pe_op op_sub (pv 10) (pv 12)) pa_nil)) (by rfl)))))
      (pss_one (ps_ret (pv 9))))))), ?_⟩
    have olf : lf ≠ dk := by
      obtain ⟨⟨m, h1, _⟩, _⟩ := hD
      exact ne_of eL h1 (by intro z; cases z)
    obtain ⟨mlen, klen⟩ := M.len
    have w8 : ∀ p ∈ ks, p.1 ∈ W8 := fun p hp => M.sub.subset (List.mem_map_of_mem hp)
    refine ⟨_, rfl, mk, rfl, ⟨_, M.at_.sq⟩, fun D hDn => ?_⟩
    have oD := hD.off hDn
    refine lc_tup (K := K) (a := mk) (xs := ms) (fun i H' => ∃ (fs : List V) (fk : List (Str × Int)), H' = upd H D (.lst fs) ∧ DKs H fs (fk.map kD) ∧ (∀ p ∈ fk, p ∈ ks ∧ p.2 < (top : Int) ∧ 0 < n) ∧ fs.length ≤ i)
      ⟨[], [], rfl, .nil, fun _ z => (List.not_mem_nil z).elim, Nat.le_refl _⟩ (fun i H' _ ⟨fs, fk, e, _⟩ => by rw [e]; exact (M.at_.upd hDn).sq) ?_ ?_
    · rintro i y H' hi ⟨fs, fk, rfl, hfs, hfk, fl⟩
      obtain ⟨d, e1, h1⟩ := dks_at M.ok hi
      rw [List.getElem?_map] at e1
      obtain ⟨p, hp, rfl⟩ : ∃ p, ks[i]? = some p ∧ d = kD p := by
        cases e : ks[i]? with
        | none =>
          rw [e] at e1
          cases e1
        | some z =>
          rw [e] at e1
          exact ⟨z, rfl, (Option.some.inj e1).symm⟩
      obtain ⟨a, rfl, ha⟩ := kd_of h1
      have il : i < ms.length := (List.getElem?_eq_some_iff.mp hi).1
      refine ⟨rfl, _, rfl, a, _, _, _, rfl, rfl, SqT.of ((upd_ne (ne_of_none ha hDn)).trans ha), rfl, _, rfl, _, _, rfl, rfl, _, rfl, ite2 (fun hb => ?_) (fun hb => ?_)⟩
      · refine ⟨_, rfl, _, _, rfl, rfl, _, rfl, ite2 (fun hc => ?_) (fun hc => ?_)⟩
        · refine ⟨_, rfl, fs, upd_same, by rw [sizeLine_eq]; omega, fs ++ [.ref a], fk ++ [p], by rw [upd_upd], ?_, ?_, by rw [List.length_append]; simp only [List.length_cons, List.length_nil]; omega⟩
          · rw [List.map_append]
            exact DKs.snoc h1 hfs
          · intro z hz
            rcases List.mem_append.mp hz with h | h
            · exact hfk z h
            · simp only [List.mem_cons, List.not_mem_nil, or_false] at h
              subst h
              have q1 : (0 : Int) < (n : Int) := of_decide_eq_true hc
              exact ⟨List.mem_of_getElem? hp, of_decide_eq_true hb, by omega⟩
        · exact ⟨fs, fk, rfl, hfs, hfk, by omega⟩
      · exact ite2 (fun z => absurd z Bool.false_ne_true) fun _ => ⟨fs, fk, rfl, hfs, hfk, by omega⟩
    · rintro H1 ⟨fs, fk, rfl, hfs, hfk, fl⟩
      have D1 := hD.new (o := .lst fs) hDn
      have K1 : Keep dk dl H (upd H D (.lst fs)) := Keep.refl.new hDn
      have eD : upd H D (.lst fs) D = some (.lst fs) := upd_same
      generalize upd H D (.lst fs) = H1 at D1 K1 eD
      -- a leaf
      have leaf : ∀ (H' : Hp) (x : Int), DeckAt H' dk dl x → t ≤ x → x ≤ t + 1 → Keep dk dl H H' → spPick [.ref dk, .ref lf] H' Q E := fun H' x D' xa xb K' =>
        ⟨dk, dl, lf, x, lvs.map V.str, rfl, D', hlf, K' _ _ olf hlf eL, by simpa using lne, by rw [List.length_map]; omega, by omega, by omega, fun y H4 hy D4 K4 => by
          obtain ⟨c, hc, rfl⟩ := List.mem_map.mp hy
          exact k _ (.str c) _ _ D4 (by omega) (by omega) (K'.trans K4) (.str c) (drawn_str (lsub c hc)) (by rw [sz_str]; omega) (by simp [PyData.depth]) fitK_str⟩
      have hlen : fs.length = fk.length := by
        have := hfs.len
        rwa [List.length_map] at this
      refine ⟨_, rfl, (by show 0 ≤ sizeLine; exact Nat.zero_le _), fun e he => ?_⟩
      have kE : Keep dk dl H1 (upd H1 e (.lst [])) := Keep.refl.new he
      have eDE := (upd_ne (o := .lst []) (ne_of_none eD he)).trans eD
      have f1 : DKs (upd H1 e (.lst [])) fs (fk.map kD) := kds_keeps (fun _ _ z => (K1.trans kE).tup hD z) _ _ hfs
      have slay : ∀ p ∈ fk, PyData.strOk p.1 = true := fun p hp => w8_ok _ (w8 p (hfk p hp).1)
      refine ⟨_, _, .lst (SqL.of eDE) (dks_dp K _ _ f1 (kds_lay fk slay)), .lst (SqL.of upd_same) .nil, kds_shaped slay, rfl, _, rfl, ?_⟩
      refine ite2 (fun hb => ?_) (fun hb => ?_)
      · exact ite2 (fun _ => ⟨_, rfl, _, rfl, leaf _ t (D1.new he) (by omega) (by omega) (K1.trans kE)⟩) fun z => absurd rfl z
      · refine ⟨_, rfl, dk, dl, 4, t, rfl, D1.new he, by decide, by decide, by omega, by omega, fun r H2 r0 r1 D2 K2 => ⟨rfl, _, rfl, ite2 (fun _ => ?_) (fun _ => ?_)⟩⟩
        · exact ⟨_, rfl, _, rfl, leaf _ (t + 1) D2 (by omega) (by omega) ((K1.trans kE).trans K2)⟩
        have KH2 := (K1.trans kE).trans K2
        have fne : fs ≠ [] := fun z => hb (by
          have : fk = [] := List.length_eq_zero_iff.mp (by rw [← hlen, z]; rfl)
          rw [this]
          simp [PyData.eqv, PyData.eqvAll])
        refine ⟨_, rfl, _, rfl, dk, dl, D, t + 1, fs, rfl, D2, oD.2, K2 _ _ oD.1 oD.2 eDE, fne, by omega, by omega, by omega, fun y H3 hy D3 K3 => ?_⟩
        obtain ⟨d, hd, h1⟩ := dks_mem hfs hy
        obtain ⟨⟨c, m⟩, hc, rfl⟩ := List.mem_map.mp hd
        obtain ⟨a, rfl, ha⟩ := kd_of h1
        obtain ⟨hks, mtop, npos⟩ := hfk _ hc
        have mb := M.num _ hks
        have hcw := w8 _ hks
        have mb1 : 1 ≤ m := mb.1
        have mb3 : m ≤ 3 := mb.2
        have mtop' : m < (top : Int) := mtop
        clear mb mtop
        obtain ⟨n', rfl⟩ : ∃ n', n = n' + 1 := ⟨n - 1, by omega⟩
        have KH3 := KH2.trans K3
        refine ⟨a, _, rfl, SqT.of (KH3.tup hD ha), rfl, _, _, rfl, _, _, rfl, rfl, ?_⟩
        refine ⟨_, rfl, (by show 1 ≤ sizeLine; rw [sizeLine_eq]; decide), fun q hq => ⟨_, rfl, _, _, rfl, rfl, _, _, rfl, ?_⟩⟩
        have hmt : ((m.toNat : Nat) : Int) = m := by omega
        refine ⟨_, rfl, _, rfl, by omega, by omega, ?_⟩
        refine for_range (lo := 0) (n := m.toNat) (fun i σ H' => ∃ (p : Addr) (vs : List V) (ds : List PyData) (left x : Int) (o11 o12 : Option V), σ = [some (.ref dk), some (.ref mk), some (.ref lf), some (.int (top : Int)), some (.int ((n' + 1 : Nat) : Int)), some (.ref D), none, some (.str c), some (.int m), some (.ref p), some (.int left), o11, o12] ∧
            H' p = some (.tup (.str c :: vs)) ∧ H p = none ∧ DpAll K H' vs ds ∧ vs.length = i ∧ (∀ d ∈ ds, drawn d = true ∧ PyData.depth d ≤ n' ∧ fitK ks d = true) ∧ (((ds.map sz).sum : Nat) : Int) + left ≤ (top : Int) - 1 ∧ m - (i : Int) ≤ left ∧ left ≤ (top : Int) - 1 ∧ DeckAt H' dk dl x ∧ t ≤ x ∧ x ≤ t + 2 + (i : Int) + 5 * ((top : Int) - 1 - left) ∧ Keep dk dl H H')
          ⟨q, [], [], (top : Int) - 1, t + 1 + 1, none, none, rfl, upd_same, hD.dom D3 KH3 q hq, .nil, rfl, (fun _ z => (List.not_mem_nil z).elim), by simp, by omega, by omega, D3.new hq, by omega, by omega, KH3.new hq⟩ ?_ ?_
        · rintro i σ H' hi ⟨p, vs, ds, left, x, o11, o12, rfl, hp, np, hds, vl, tok, sl, ml, lt, D', xa, xb, K'⟩
          have hi' : (i : Int) + 1 ≤ m := by omega
          refine ⟨_, rfl, _, rfl, _, rfl, _, rfl, _, _, rfl, rfl, _, _, rfl, rfl, _, _, rfl, rfl, dk, dl, left - (m - (0 + (i : Int)) - 1), x, rfl, D', by omega, by omega, by omega, by omega, fun r H4 r0 r1 D4 K4 => ⟨_, _, rfl, rfl, ?_⟩⟩
          have hown : (((1 + r).toNat : Nat) : Int) = 1 + r := by omega
          have KH4 := K'.trans K4
          refine ⟨_, rfl, _, rfl, _, rfl, _, rfl, _, rfl, _, rfl, _, _, rfl, rfl, hG n' rfl _ _ _ _ ⟨dk, dl, mk, lf, x + 1, (1 + r).toNat, ms, ks, lvs, ?_, D4, M.keep hD KH4, hlf, KH4 _ _ olf hlf eL, lsub, lne, l9, by omega, by omega, by omega, by omega, fun v d x' H5 D5 xc xd K5 hv hok hsz hdep hfit => ?_⟩⟩
          · have z : ((n' + 1 : Nat) : Int) - 1 = (n' : Int) := by omega
            show [V.ref dk, V.ref mk, V.ref lf, V.int (1 + r), V.int (((n' + 1 : Nat) : Int) - 1)] = [V.ref dk, V.ref mk, V.ref lf, V.int (((1 + r).toNat : Nat) : Int), V.int (n' : Int)]
            rw [hown, z]
          have KH5 := KH4.trans K5
          have op := hD.off np
          refine ⟨(by show 1 ≤ sizeLine; rw [sizeLine_eq]; decide), fun q5 hq5 => ?_⟩
          have hp5 : upd H5 q5 (.tup [v]) p = some (.tup (.str c :: vs)) := ((K4.trans K5).new hq5) _ _ op.1 op.2 hp
          refine ⟨p, q5, _, _, rfl, rfl, SqT.of hp5, SqT.of upd_same, List.cons_ne_nil _ _, (by rw [List.length_cons, List.length_cons, List.length_nil, sizeLine_eq]; omega), (fun z => absurd z (List.cons_ne_nil _ _)), fun _ p6 hp6 => ?_⟩
          refine ⟨_, rfl, _, rfl, _, _, rfl, rfl, _, _, rfl, ?_⟩
          have K56 : Keep dk dl H5 (upd (upd H5 q5 (.tup [v])) p6 (.tup (.str c :: vs ++ [v]))) := (Keep.refl.new hq5).new hp6
          have K46 : Keep dk dl H' (upd (upd H5 q5 (.tup [v])) p6 (.tup (.str c :: vs ++ [v]))) := (K4.trans K5).trans K56
          have kt46 : KT K H' (upd (upd H5 q5 (.tup [v])) p6 (.tup (.str c :: vs ++ [v]))) := K46.kt D'
          have kt56 : KT K H5 (upd (upd H5 q5 (.tup [v])) p6 (.tup (.str c :: vs ++ [v]))) := K56.kt D5
          refine ⟨p6, vs ++ [v], ds ++ [d], left - (1 + r), x', _, _, rfl, upd_same, hD.dom (D5.new hq5) (KH5.new hq5) p6 hp6, ?_, by rw [List.length_append, vl]; rfl, (fun d' hd' => by
              rcases List.mem_append.mp hd' with h | h
              · exact tok _ h
              · simp only [List.mem_cons, List.not_mem_nil, or_false] at h
                rw [h]
                exact ⟨hok, hdep, hfit⟩), ?_, by omega, by omega, (D5.new hq5).new hp6, by omega, by omega, KH5.trans K56⟩
          · exact dps_app (ths_kt kt46 _ _ (drawn_ths fun z hz => (tok z hz).1) hds) (.cons (th_kt kt56 d v (drawn_th hok) hv) .nil)
          · rw [List.map_append, List.sum_append]
            simp only [List.map_cons, List.map_nil, List.sum_cons, List.sum_nil]
            omega
        · rintro σ H' ⟨p, vs, ds, left, x, o11, o12, rfl, hp, np, hds, vl, tok, sl, ml, lt, D', xa, xb, K'⟩
          have dl1 := dps_len hds
          have dne : ds ≠ [] := fun z => by
            rw [z] at dl1
            simp only [List.length_nil] at dl1
            omega
          refine ⟨_, rfl, k _ (.tuple (.str c :: ds)) x H' D' xa (by omega) K' (.tup (SqT.of hp) (.cons (.str _) hds)) (drawn_tup hcw dne fun z hz => (tok z hz).1) ?_ ?_ (fitK_tup.mpr ⟨by rw [← dl1, vl, hmt]; exact hks, fun z hz => (tok z hz).2.2⟩)⟩
          · rw [sz_tup]
            omega
          · have := depth_all fun z hz => (tok z hz).2.1
            simp only [PyData.depth, PyData.depthAll]
            omega
end
end K09

set_option Elab.async false
set_option linter.all false
set_option maxRecDepth 100000
set_option maxHeartbeats 4000000
/-! What is written of drawn things: sizes of the texts. -/
namespace K09
open PySem PySem.Spec PyProof.Rows L2 Mine TL
theorem joinL_all {f : Nat → Bool} {S : List Nat} (hS : S.all f = true) : ∀ ls : List (List Nat), (∀ l ∈ ls, l.all f = true) → (joinL S ls).all f = true
  | [], _ => rfl
  | [x], h => h x (List.mem_cons_self ..)
  | x :: y :: r, h => by
    show (x ++ (S ++ joinL S (y :: r))).all f = true
    rw [List.all_append, List.all_append, h x (List.mem_cons_self ..), hS, joinL_all hS (y :: r) fun l hl => h l (List.mem_cons_of_mem _ hl)]
    rfl
theorem lv_sign : ∀ x ∈ LV, (tl x).all signOk = true := by decide +kernel
theorem w8_sign : ∀ x ∈ W8, (tl x).all signOk = true := by decide +kernel
theorem drawn_sign : ∀ (n : Nat) (d : PyData), sz d ≤ n → drawn d = true → (tl (txt d)).all signOk = true
  | 0, d, hn, _ => by have := sz_pos d; omega
  | n + 1, d, hn, h => by
    rcases drawn_cases h with ⟨c, rfl, hc⟩ | ⟨c, ps, rfl, ne, hc, hp⟩
    · rw [txt_str]
      exact lv_sign c hc
    · have all : ∀ q ∈ ps, (tl (txt q)).all signOk = true := fun q hq => drawn_sign n q (by have : sz q + 1 ≤ sz (.tuple (.str c :: ps)) := kid_sz (show q ∈ kids (.tuple (.str c :: ps)) from hq); omega) (hp q hq)
      have e1 : tl (PySem.Str.ofString "(") = [40] := by decide +kernel
      have e2 : tl (PySem.Str.ofString ")") = [41] := by decide +kernel
      have e3 : tl (PySem.Str.ofString ",") = [44] := by decide +kernel
      rw [txt_tup, tl_append, tl_append, tl_append, tl_join, e1, e2, e3, List.all_append, List.all_append, List.all_append, w8_sign c hc, joinL_all (by decide) _ fun l hl => ?_]
      · decide
      · rw [List.map_map] at hl
        obtain ⟨q, hq, rfl⟩ := List.mem_map.mp hl
        exact all q hq
theorem shows_txt {d : PyData} (h : drawn d = true) : Shows (11 * sz d + 2) 0 (.str (txt d)) := by
  refine ⟨by simp [PyData.showable], ?_, by simp [PyData.depth]⟩
  have e := tl_repr (drawn_sign _ d (Nat.le_refl _) h)
  have l := congrArg List.length e
  have e1 : ∀ z : Str, (tl z).length = z.length := fun z => by simp [tl, Str.length]
  rw [e1, List.length_cons, List.length_append, e1, List.length_singleton] at l
  have := drawn_txt _ d (Nat.le_refl _) h
  rw [PyData.shown_str]
  omega
theorem shows_thing {d : PyData} {n : Nat} (h : drawn d = true) (dep : PyData.depth d ≤ n) : Shows (30 * sz d) n d :=
  ⟨(drawn_show _ d (Nat.le_refl _) h).1, by have := (drawn_show _ d (Nat.le_refl _) h).2; omega, dep⟩
theorem map_sum_le {ds : List PyData} {f : PyData → Nat} {k : Nat} (h : ∀ d ∈ ds, f d ≤ k) : (ds.map f).sum ≤ ds.length * k := by
  induction ds with
  | nil => simp
  | cons d ds ih =>
    have := h d (List.mem_cons_self ..)
    have := ih fun x hx => h x (List.mem_cons_of_mem _ hx)
    simp only [List.map_cons, List.sum_cons, List.length_cons, Nat.add_mul]
    omega
theorem shows_list {ds : List PyData} {n l : Nat} (h : ∀ d ∈ ds, Shows n l d) : Shows (ds.length * n + 2 * ds.length + 3) (l + 1) (.list ds) := by
  refine ⟨?_, ?_, ?_⟩
  · simp only [PyData.showable]
    exact showableAll_iff.mpr fun d hd => (h d hd).ok
  · have h1 := listText_len_le (PyData.shownAll ds)
    rw [shownAll_eq, List.map_map, List.length_map] at h1
    have := map_sum_le (f := (fun x : Str => x.length) ∘ PyData.shown) fun d hd => (h d hd).len
    simp only [PyData.shown]
    rw [shownAll_eq]
    omega
  · have := depth_all fun d hd => (h d hd).dep
    simp only [PyData.depth]
    omega
theorem shows_tuple {ds : List PyData} {n l : Nat} (h : ∀ d ∈ ds, Shows n l d) : Shows (ds.length * n + 2 * ds.length + 3) (l + 1) (.tuple ds) := by
  refine ⟨?_, ?_, ?_⟩
  · simp only [PyData.showable]
    exact showableAll_iff.mpr fun d hd => (h d hd).ok
  · have h1 := tupleText_len_le (PyData.shownAll ds)
    rw [shownAll_eq, List.map_map, List.length_map] at h1
    have := map_sum_le (f := (fun x : Str => x.length) ∘ PyData.shown) fun d hd => (h d hd).len
    simp only [PyData.shown]
    rw [shownAll_eq]
    omega
  · have := depth_all fun d hd => (h d hd).dep
    simp only [PyData.depth]
    omega
theorem len_of_sub {α : Type} [DecidableEq α] : ∀ {l m : List α}, l.Nodup → (∀ x ∈ l, x ∈ m) → l.length ≤ m.length
  | [], _, _, _ => Nat.zero_le _
  | x :: l, m, nd, sub => by
    obtain ⟨hx, nd'⟩ := List.nodup_cons.mp nd
    have xm := sub x (List.mem_cons_self ..)
    have p := List.perm_cons_erase xm
    have := len_of_sub (l := l) (m := m.erase x) nd' fun y hy => by
      have : y ∈ x :: m.erase x := p.mem_iff.mp (sub y (List.mem_cons_of_mem _ hy))
      rcases List.mem_cons.mp this with rfl | z
      · exact absurd hy hx
      · exact z
    have e := p.length_eq
    rw [List.length_cons] at e ⊢
    omega
theorem lts_nodup {l : List Str} (h : l.Pairwise LtS) : l.Nodup := List.Pairwise.imp (R := LtS) (S := (· ≠ ·)) (fun {a b} z e => lts_irr (a := b) (by rw [e] at z; exact z)) h
theorem asc_len {ds P : List PyData} (a : AscOf ds P) : ds.length ≤ P.length := by
  have nd : (ds.map txt).Nodup := lts_nodup a.asc
  have := len_of_sub (m := P.map txt) nd fun x hx => by
    obtain ⟨d, hd, rfl⟩ := List.mem_map.mp hx
    exact List.mem_map_of_mem ((a.mem d).mp hd)
  simpa using this
theorem those_len {f : Str → Bool} {d : PyData} {ys : List Str} (h : Those f d ys) (hd : drawn d = true) : ys.length ≤ 10 ∧ ∀ y ∈ ys, y ∈ LV := by
  have m : ∀ y ∈ ys, y ∈ LV := fun y hy => by
    have := (drawn_lot _ d (Nat.le_refl _) hd _ ((h.mem y).mp hy).1).1
    simpa [drawn] using this
  exact ⟨len_of_sub (m := LV) (lts_nodup h.asc) m, m⟩
theorem those_eq {f : Str → Bool} {d : PyData} {ys zs : List Str} (a : Those f d ys) (b : Those f d zs) : ys = zs := asc_eq a.asc b.asc fun x => (a.mem x).trans (b.mem x).symm
theorem shows_lvs {ys : List Str} (n : ys.length ≤ 10) (h : ∀ y ∈ ys, y ∈ LV) : Shows 200 1 (.tuple (ys.map PyData.str)) := by
  refine (shows_tuple (ds := ys.map PyData.str) (n := 10) (l := 0) fun d hd => ?_).up (by rw [List.length_map]; omega) (Nat.le_refl _)
  obtain ⟨y, hy, rfl⟩ := List.mem_map.mp hd
  exact ⟨by simp [PyData.showable], lv_shown y (h y hy), by simp [PyData.depth]⟩
/-- what the law compares of a thing -/
def tellD (d : PyData) (ds : List PyData) (ys zs : List Str) : List PyData := [.str (txt d), .tuple ds, .int (sz d : Nat), .tuple (ys.map PyData.str), .tuple (zs.map PyData.str)]
theorem int_shown : ∀ n ≤ 30, (PyData.int (n : Nat)).showable = true ∧ (PyData.shown (.int (n : Nat))).length ≤ 10 := by decide +kernel
theorem shows_tell {d : PyData} {ds : List PyData} {ys zs : List Str} (h : drawn d = true) (s : sz d ≤ 30) (dep : PyData.depth d ≤ 12) (a : AscOf ds (lot d)) (b : Those isN d ys) (c : Those isW d zs) : Shows 200000 14 (.list (tellD d ds ys zs)) := by
  have dl : ds.length ≤ 30 := Nat.le_trans (asc_len a) s
  have s1 : Shows 30000 13 (.tuple ds) := (shows_tuple (n := 900) (l := 12) fun x hx => by
    obtain ⟨e1, e2, e3⟩ := drawn_lot _ d (Nat.le_refl _) h x ((a.mem x).mp hx)
    exact (shows_thing e1 (Nat.le_trans e3 dep)).up (by omega) (Nat.le_refl _)).up (by omega) (Nat.le_refl _)
  obtain ⟨y1, y2⟩ := those_len b h
  obtain ⟨z1, z2⟩ := those_len c h
  have hi := int_shown _ s
  refine (shows_list (n := 30000) (l := 13) fun x hx => ?_).up (by show 5 * 30000 + 2 * 5 + 3 ≤ 200000; decide) (Nat.le_refl _)
  unfold tellD at hx
  simp only [List.mem_cons, List.not_mem_nil, or_false] at hx
  rcases hx with rfl | rfl | rfl | rfl | rfl
  · exact (shows_txt h).up (by omega) (by omega)
  · exact s1
  · exact ⟨hi.1, by omega, by simp [PyData.depth]⟩
  · exact (shows_lvs y1 y2).up (by omega) (by omega)
  · exact (shows_lvs z1 z2).up (by omega) (by omega)
theorem put_drawn {f : Str → PyData} (hf : ∀ x ∈ LV, drawn (f x) = true) : ∀ (n : Nat) (d : PyData), sz d ≤ n → drawn d = true → drawn (put f d) = true
  | 0, d, hn, _ => by have := sz_pos d; omega
  | n + 1, d, hn, h => by
    rcases drawn_cases h with ⟨c, rfl, hc⟩ | ⟨c, ps, rfl, ne, hc, hp⟩
    · rw [put_str]
      exact hf c hc
    · rw [put_tup]
      refine drawn_tup hc (by simpa using ne) fun q hq => ?_
      obtain ⟨p, hp1, rfl⟩ := List.mem_map.mp hq
      exact put_drawn hf n p (by have : sz p + 1 ≤ sz (.tuple (.str c :: ps)) := kid_sz (show p ∈ kids (.tuple (.str c :: ps)) from hp1); omega) (hp p hp1)
theorem put_sz {f : Str → PyData} {k : Nat} (k1 : 1 ≤ k) (hf : ∀ x ∈ LV, sz (f x) ≤ k) : ∀ (n : Nat) (d : PyData), sz d ≤ n → drawn d = true → sz (put f d) ≤ k * sz d
  | 0, d, hn, _ => by have := sz_pos d; omega
  | n + 1, d, hn, h => by
    rcases drawn_cases h with ⟨c, rfl, hc⟩ | ⟨c, ps, rfl, ne, hc, hp⟩
    · rw [put_str, sz_str]
      have := hf c hc
      omega
    · rw [put_tup, sz_tup, sz_tup, List.map_map]
      have all : ∀ q ∈ ps, (sz ∘ put f) q ≤ k * sz q := fun q hq => put_sz k1 hf n q (by have : sz q + 1 ≤ sz (.tuple (.str c :: ps)) := kid_sz (show q ∈ kids (.tuple (.str c :: ps)) from hq); omega) (hp q hq)
      have := sums all
      rw [sum_mul] at this
      rw [Nat.mul_add]
      omega
theorem put_depth {f : Str → PyData} {k : Nat} (hf : ∀ x ∈ LV, PyData.depth (f x) ≤ k) : ∀ (n : Nat) (d : PyData), sz d ≤ n → drawn d = true → PyData.depth (put f d) ≤ k + PyData.depth d
  | 0, d, hn, _ => by have := sz_pos d; omega
  | n + 1, d, hn, h => by
    rcases drawn_cases h with ⟨c, rfl, hc⟩ | ⟨c, ps, rfl, ne, hc, hp⟩
    · rw [put_str]
      have := hf c hc
      omega
    · rw [put_tup]
      have := depth_all (ds := ps.map (put f)) (n := k + (PyData.depth (.tuple (.str c :: ps)) - 1)) fun q hq => by
        obtain ⟨p, hp1, rfl⟩ := List.mem_map.mp hq
        have i := put_depth hf n p (by have : sz p + 1 ≤ sz (.tuple (.str c :: ps)) := kid_sz (show p ∈ kids (.tuple (.str c :: ps)) from hp1); omega) (hp p hp1)
        have j := kid_depth (n := PyData.depth (.tuple (.str c :: ps)) - 1) (show p ∈ kids (.tuple (.str c :: ps)) from hp1) (by omega)
        omega
      simp only [PyData.depth, PyData.depthAll] at this ⊢
      omega
mutual
theorem dp_same {K : PySem.W.Frag} {H H' : Hp} (s : Same H H') : ∀ (d : PyData) (v : V), Dp K H v d → Dp K H' v d
  | .none, _, h => by cases h; exact .non
  | .bool b, _, h => by cases h; exact .bl b
  | .int i, _, h => by cases h; exact .int i
  | .str x, _, h => by cases h; exact .str x
  | .list ds, _, h => by
    cases h with
    | lst e r =>
      refine .lst ?_ (dps_same s ds _ r)
      rcases e with (e | ⟨o, e⟩) | e
      · exact .inl (.inl (s _ _ e))
      · exact .inl (.inr ⟨o, s _ _ e⟩)
      · exact .inr e
  | .tuple ds, _, h => by
    cases h with
    | tup e r => exact .tup (kt_same s _ _ e) (dps_same s ds _ r)
  | .dict _, _, h => by cases h
theorem dps_same {K : PySem.W.Frag} {H H' : Hp} (s : Same H H') : ∀ (ds : List PyData) (vs : List V), DpAll K H vs ds → DpAll K H' vs ds
  | [], _, h => by cases h; exact .nil
  | d :: ds, _, h => by
    cases h with
    | cons h1 h2 => exact .cons (dp_same s d _ h1) (dps_same s ds _ h2)
end
theorem small_of {d : PyData} (h : drawn d = true) (s : sz d ≤ 1000) : Small d := by
  have := drawn_txt _ d (Nat.le_refl _) h
  exact ⟨drawn_thing _ d (Nat.le_refl _) h, by omega, by omega⟩
end K09

set_option Elab.async false
set_option linter.all false
set_option maxRecDepth 100000
set_option maxHeartbeats 4000000
/-! Whether a drawn thing is one of the book. -/
namespace K09
open PySem PySem.Spec PyProof.Rows L2 Mine TL
abbrev sIsTh : Stmt := inClass (top 34) 4
def spHas (K : PySem.W.Frag) : Sp := fun vs H Q _ => ∃ (cd a : Addr) (c : Str) (ws : List V) (ks : List (Str × Int)), vs = [.ref cd, .ref a] ∧ Cnt H cd ks ∧ SqT K H a (.str c :: ws) ∧ (c, (ws.length : Int)) ∈ ks ∧ c ∈ W8 ∧ ∀ H', Same H H' → Q (.bl true) H'
structure TxtHp (K : PySem.W.Frag) (mg : Str → Option Value) (fW : Addr) : Prop where
  len : mg "len" = none
  gW : mg "is_word" = some (.ref fW)
  kW : PySem.W.keepIn K (.ref fW) = true
section
variable {P : Program} {w : World} {K : PySem.W.Frag} {mg : Str → Option Value} {base : Heap}
end
end K09

set_option Elab.async false
set_option linter.all false
set_option maxRecDepth 100000
set_option maxHeartbeats 4000000
/-! Book.is_thing of a drawn thing. -/
namespace K09
open PySem PySem.Spec PyProof.Rows L2 Mine TL
structure TxtIT (K : PySem.W.Frag) (mg : Str → Option Value) (C fH fW fN : Addr) : Prop where
  cl : Cls K C
  nK : NoAttr K C "kinds"
  dict : mg "dict" = none
  isi : mg "isinstance" = none
  tuple : mg "tuple" = none
  gH : mg "_has_all_parts" = some (.ref fH)
  kH : PySem.W.keepIn K (.ref fH) = true
  gW : mg "is_word" = some (.ref fW)
  kW : PySem.W.keepIn K (.ref fW) = true
  gN : mg "is_name" = some (.ref fN)
  kN : PySem.W.keepIn K (.ref fN) = true
theorem dps_last {K : PySem.W.Frag} {H : Hp} {r : PyData} : ∀ {R0 : List PyData} {us : List V}, DpAll K H us (R0 ++ [r]) → ∃ us0 y, us = us0 ++ [y] ∧ DpAll K H us0 R0 ∧ Dp K H y r
  | [], _, .cons h .nil => ⟨[], _, rfl, .nil, h⟩
  | d :: R0, _, .cons h t => by
    obtain ⟨us0, y, e, a, b⟩ := dps_last (R0 := R0) t
    exact ⟨_ :: us0, y, by rw [e]; rfl, .cons h a, b⟩
theorem len_sz : ∀ ps : List PyData, ps.length ≤ (ps.map sz).sum
  | [] => Nat.le_refl _
  | p :: ps => by
    have := len_sz ps
    have := sz_pos p
    simp only [List.length_cons, List.map_cons, List.sum_cons]
    omega
/-- a thing of the book that was drawn -/
structure OkT (ks : List (Str × Int)) (d : PyData) : Prop where
  dr : drawn d = true
  fit : fitK ks d = true
theorem OkT.kid {ks : List (Str × Int)} {c : Str} {ps : List PyData} (h : OkT ks (.tuple (.str c :: ps))) : (c, (ps.length : Int)) ∈ ks ∧ c ∈ W8 ∧ ∀ p ∈ ps, OkT ks p := by
  obtain ⟨a, b⟩ := fitK_tup.mp h.fit
  rcases drawn_cases h.dr with ⟨_, z, _⟩ | ⟨c', ps', z, _, hc, hp⟩
  · cases z
  · cases z
    exact ⟨a, hc, fun p hp' => ⟨hp p hp', b p hp'⟩⟩
theorem okT_ths {ks : List (Str × Int)} {R : List PyData} (h : ∀ r ∈ R, OkT ks r) : thingAll R = true := thingAll_iff.mpr fun z hz => drawn_th (h z hz).dr
def spIsTh (K : PySem.W.Frag) (C : Addr) : Sp := fun vs H Q _ => ∃ (x : Addr) (v : V) (ks : List (Str × Int)) (os : List Opn) (d : PyData), vs = [.ref x, v] ∧ BkAt K C H x ks os ∧ Dp K H v d ∧ OkT ks d ∧ sz d ≤ 4000 ∧ ∀ H', Same H H' → Q (.bl true) H'
section
variable {P : Program} {w : World} {K : PySem.W.Frag} {mg : Str → Option Value} {base : Heap}
abbrev nIsTh : List Str := ["self", "thing", "counts", "left", "piece"]
end
end K09

set_option Elab.async false
set_option linter.all false
set_option maxRecDepth 100000
set_option maxHeartbeats 4000000
/-! Row(book, things). -/
namespace K09
open PySem PySem.Spec PyProof.Rows L2 Mine TL
abbrev fsR (b t n p : Addr) : List (Str × V) := [(PySem.Str.ofString "book", .ref b), (PySem.Str.ofString "things", .ref t), (PySem.Str.ofString "names", .ref n), (PySem.Str.ofString "pieces", .ref p)]
/-- those of the texts that stand in these things and are so -/
structure ThoseL (f : Str → Bool) (ds : List PyData) (ys : List Str) : Prop where
  asc : ys.Pairwise LtS
  mem : ∀ x, x ∈ ys ↔ PyData.str x ∈ ds.flatMap lot ∧ f x = true
/-- drawn things of a book, not too many -/
structure OkR (ks : List (Str × Int)) (ds : List PyData) : Prop where
  each : ∀ d ∈ ds, OkT ks d
  many : (ds.flatMap lot).length ≤ 4000
theorem OkR.szs {ks : List (Str × Int)} {ds : List PyData} (h : OkR ks ds) {d : PyData} (hd : d ∈ ds) : sz d ≤ 4000 := Nat.le_trans (flat_ge hd) h.many
theorem OkR.pieces {ks : List (Str × Int)} {ds : List PyData} (h : OkR ks ds) : ∀ p ∈ ds.flatMap lot, drawn p = true ∧ sz p ≤ 4000 := fun p hp => by
  obtain ⟨d, hd, hp⟩ := List.mem_flatMap.mp hp
  obtain ⟨a, b, _⟩ := drawn_lot _ d (Nat.le_refl _) (h.each d hd).dr p hp
  exact ⟨a, Nat.le_trans b (h.szs hd)⟩
theorem OkR.fits {ks : List (Str × Int)} {ds : List PyData} (h : OkR ks ds) {Q : List PyData} (b : Bfs ds Q) : Fits ds Q := by
  have mem : ∀ p ∈ Q, drawn p = true ∧ sz p ≤ 4000 := fun p hp => h.pieces p (b.perm.mem_iff.mp hp)
  refine ⟨b, fun p hp => drawn_th (mem p hp).1, ?_, fun p hp => ?_⟩
  · rw [b.len]
    exact Nat.le_trans h.many (by decide)
  · have := drawn_txt _ p (Nat.le_refl _) (mem p hp).1
    have := (mem p hp).2
    omega
def spRInit (K : PySem.W.Frag) (CB CR : Addr) : Sp := fun vs H Q _ => ∃ (x dx b t : Addr) (ks : List (Str × Int)) (os : List Opn) (ws : List V) (ds : List PyData), vs = [.ref x, .ref b, .ref t] ∧ H x = some (.ins CR dx []) ∧ BkAt K CB H b ks os ∧ SqT K H t ws ∧ DpAll K H ws ds ∧ OkR ks ds ∧
  ∀ (n p : Addr) (ys : List Str) (ps : List V) (pds : List PyData) (H' : Hp), (∀ b o, b ≠ x → H b = some o → H' b = some o) → H' x = some (.ins CR dx (fsR b t n p)) → H' n = some (.tup (ys.map V.str)) → H' p = some (.tup ps) → DpAll K H' ps pds → ThoseL isN ds ys → AscOf pds (ds.flatMap lot) → Q .non H'
structure TxtRI (K : PySem.W.Frag) (mg : Str → Option Value) (CB CR fI fP fX fA fN : Addr) : Prop where
  clB : Cls K CB
  me : Meth K CB "is_thing" fI
  cl : Cls K CR
  nB : NoAttr K CR "book"
  nT : NoAttr K CR "things"
  nN : NoAttr K CR "names"
  nP : NoAttr K CR "pieces"
  isi : mg "isinstance" = none
  tuple : mg "tuple" = none
  sorted : mg "sorted" = none
  gP : mg "all_pieces" = some (.ref fP)
  kP : PySem.W.keepIn K (.ref fP) = true
  gX : mg "all_texts" = some (.ref fX)
  kX : PySem.W.keepIn K (.ref fX) = true
  gA : mg "ascending" = some (.ref fA)
  kA : PySem.W.keepIn K (.ref fA) = true
  gN : mg "is_name" = some (.ref fN)
  kN : PySem.W.keepIn K (.ref fN) = true
theorem kt_ins {K : PySem.W.Frag} {H : Hp} {x C dx : Addr} {fs gs : List (Str × V)} (h : H x = some (.ins C dx fs)) : KT K H (upd H x (.ins C dx gs)) := fun a zs e => by
  rcases e with (e | ⟨o, e⟩) | e
  · exact .inl (.inl ((upd_ne (ne_of e h (by intro z; cases z))).trans e))
  · exact .inl (.inr ⟨o, (upd_ne (ne_of e h (by intro z; cases z))).trans e⟩)
  · exact .inr e
section
variable {P : Program} {w : World} {K : PySem.W.Frag} {mg : Str → Option Value} {base : Heap}
end
end K09

namespace K09
open PySem PySem.Spec PyProof.Rows L2 Mine TL
theorem OkT.th {ks : List (Str × Int)} {d : PyData} (h : OkT ks d) : thing d = true := drawn_th h.dr
/-! Pieces of things of kinds, by the program. -/
abbrev sHas : Stmt := top 14
abbrev sPok : Stmt := top 13
def spHas2 (K : PySem.W.Frag) : Sp := fun vs H Q _ => ∃ (cd a : Addr) (c : Str) (ws : List V) (ks : List (Str × Int)), vs = [.ref cd, .ref a] ∧ Cnt H cd ks ∧ SqT K H a (.str c :: ws) ∧ (c, (ws.length : Int)) ∈ ks ∧ 1 ≤ ws.length ∧ ∀ H', Same H H' → Q (.bl true) H'
/-- things of kinds: their pieces -/
def spPok (K : PySem.W.Frag) : Sp := fun vs H Q _ => ∃ (cd a : Addr) (ws : List V) (ts : List PyData) (ks : List (Str × Int)), vs = [.ref cd, .ref a] ∧ Cnt H cd ks ∧ (SqL K H a ws ∨ SqT K H a ws) ∧ DpAll K H ws ts ∧ OkR ks ts ∧
  ∀ (p : Addr) (P : List PyData) (us : List V) (H' : Hp), Same H H' → H p = none → H' p = some (.lst us) → DpAll K H' us P → Bfs ts P → Q (.ref p) H'
theorem putK_len (c : List (Key × V)) (k : Key) (x : V) : (putK c k x).length ≤ c.length + 1 := by
  unfold putK
  by_cases e : (c.any fun kv => decide (kv.1 = k)) = true
  · rw [if_pos e, List.length_map]
    omega
  · rw [if_neg e, List.length_append]
    simp
/-- the leaves met, each once -/
def LvOk (kvs : List (Key × V)) (n : Nat) : Prop := (∀ kv ∈ kvs, ∃ x, x ∈ LV ∧ kv.1 = Sum.inr x) ∧ kvs.length ≤ n
theorem LvOk.put {kvs : List (Key × V)} {n : Nat} (h : LvOk kvs n) {x : Str} (hx : x ∈ LV) (v : V) : LvOk (putK kvs (.inr x) v) (n + 1) := by
  refine ⟨fun kv hkv => ?_, Nat.le_trans (putK_len _ _ _) (by have := h.2; omega)⟩
  unfold putK at hkv
  by_cases e : (kvs.any fun kv => decide (kv.1 = Sum.inr x)) = true
  · rw [if_pos e] at hkv
    obtain ⟨kv0, h0, rfl⟩ := List.mem_map.mp hkv
    obtain ⟨y, hy, ey⟩ := h.1 kv0 h0
    refine ⟨y, hy, ?_⟩
    by_cases z : kv0.1 = Sum.inr x
    · rw [if_pos z]; exact ey
    · rw [if_neg z]; exact ey
  · rw [if_neg e] at hkv
    rcases List.mem_append.mp hkv with hkv | hkv
    · exact h.1 kv hkv
    · rw [List.mem_singleton.mp hkv]
      exact ⟨x, hx, rfl⟩
theorem LvOk.up {kvs : List (Key × V)} {n m : Nat} (h : LvOk kvs n) (l : n ≤ m) : LvOk kvs m := ⟨h.1, Nat.le_trans h.2 l⟩
theorem kt_dk {K : PySem.W.Frag} {H : Hp} {p : Addr} {k1 k2 : List (Key × V)} (h : H p = some (.dK k1)) : KT K H (upd H p (.dK k2)) := fun a zs e => by
  rcases e with (e | ⟨o, e⟩) | e
  · exact .inl (.inl ((upd_ne (ne_of e h (by intro z; cases z))).trans e))
  · exact .inl (.inr ⟨o, (upd_ne (ne_of e h (by intro z; cases z))).trans e⟩)
  · exact .inr e
theorem okT_iv {ks : List (Str × Int)} {x : Str} (h : OkT ks (.str x)) : x ∈ LV := by
  have := h.dr
  simpa [drawn] using this
theorem okT_kids {ks : List (Str × Int)} {d : PyData} (h : OkT ks d) : ∀ p ∈ kids d, OkT ks p := by
  rcases thing_cases h.th with ⟨c, rfl⟩ | ⟨c, ps, rfl, ne, e⟩
  · intro p hp
    simp [kids] at hp
  · exact h.kid.2.2
theorem okT_lot {ks : List (Str × Int)} : ∀ (n : Nat) (d : PyData), sz d ≤ n → OkT ks d → ∀ p ∈ lot d, OkT ks p
  | 0, d, h, _ => by have := sz_pos d; omega
  | n + 1, d, h, hd => by
    intro p hp
    rw [lot_eq d, List.mem_cons] at hp
    rcases hp with rfl | hp
    · exact hd
    · obtain ⟨q, hq, hp⟩ := List.mem_flatMap.mp hp
      refine okT_lot n q ?_ (okT_kids hd q hq) p hp
      rcases thing_cases hd.th with ⟨c, rfl⟩ | ⟨c, ps, rfl, ne, e⟩
      · simp [kids] at hq
      · have := kid_sz hq
        omega
theorem BfsW.itk {ks : List (Str × Int)} {ts D R : List PyData} (bw : BfsW ts D R) (h : ∀ t ∈ ts, OkT ks t) : ∀ y ∈ D ++ R, OkT ks y := by
  intro y hy
  rw [bw.eq] at hy
  rcases List.mem_append.mp hy with hy | hy
  · exact h y hy
  · obtain ⟨z, hz, hy⟩ := List.mem_flatMap.mp hy
    obtain ⟨t, ht1, ht2⟩ := List.mem_flatMap.mp (bw.perm.mem_iff.mp (List.mem_append_left _ hz))
    exact okT_kids (okT_lot _ t (Nat.le_refl _) (h t ht1) z ht2) y hy
section
variable {P : Program} {w : World} {K : PySem.W.Frag} {mg : Str → Option Value} {base : Heap}
abbrev nHas : List Str := ["counts", "thing"]
theorem scHas : FnScope nHas ["counts", "thing"] (defScope sHas) := ⟨rfl, rfl, rfl, by decide +kernel, rfl, by decide +kernel, by decide +kernel⟩
theorem ok_Has  {f : Addr} {fd : FuncData} (F : Fun K "_has_all_parts" "_has_all_parts" sHas f fd) (B : Bi mg) : FnOk P w K mg base CX0 (1) f fd ["counts", "thing"] (spHas2 K) := by
  refine F.ok scHas (fun vs H Q E h => ?_) (fun cdv A outer s H vs Q E hr h => ?_)
  · obtain ⟨cd, a, c, ws, ks, rfl, _⟩ := h
    rfl
  · obtain ⟨cd, a, c, ws, ks, rfl, hc, ha, hm, w1, k⟩ := h
    have line : sizeLine = 16777216 := sizeLine_eq
    refine ⟨_, (pss_one (ps_ret (pe_and (pe_cmpR op_gt (pe_callB call_len_seq (by rfl) B.len PySem.boot_len (pa_cons (pv 1) pa_nil)) pe_int (nomark _)) (pe_and (pe_callB call_isi (by rfl) B.isinstance (by decide +kernel) (pa_cons (pe_ix ix_tup (pv 1) pe_int (fun _ _ => rfl)) (pa_cons (pe_bltn (v := .ty "str") rfl B.str (by decide +kernel) rfl) pa_nil))) (pe_one (pe_cmpR op_eq (pe_dget1 (hu_of hr) (pv 0) (pe_ix ix_tup (pv 1) pe_int (fun _ _ => rfl)) ⟨rfl, by rfl, by rfl, rfl⟩) (pe_op op_sub (pe_callB call_len_seq (by rfl) B.len PySem.boot_len (pa_cons (pv 1) pa_nil)) pe_int) (nomark _))))))), ?_⟩
    obtain ⟨kvs, e, yes, no⟩ := hc
    refine ⟨_, rfl, a, _, rfl, .inr ha, _, _, rfl, rfl, _, rfl, ite2 (fun _ => ?_) (fun z => absurd (decide_eq_true (by simp; omega)) z)⟩
    refine ⟨_, rfl, a, _, _, _, rfl, rfl, ha, at0, _, _, _, _, true, rfl, .ty "str", .base (.str c), kit_ty rfl, _, rfl, ite2 (fun _ => ?_) (fun z => absurd rfl z)⟩
    refine ⟨_, rfl, cd, rfl, .inl ⟨kvs, .inl e⟩, _, rfl, a, _, _, _, rfl, rfl, ha, at0, some (.int (ws.length : Int)), .inl ⟨kvs, .inr c, .inl e, rfl, (yes _ hm).symm⟩, _, rfl, a, _, rfl, .inr ha, _, _, rfl, rfl, rfl, ?_⟩
    have := k H same_rfl
    simpa using this
abbrev nPok : List Str := ["counts", "things", "pieces", "leaves", "level", "following", "piece", "leaf"]
theorem scPok : FnScope nPok ["counts", "things"] (defScope sPok) := ⟨rfl, rfl, rfl, by decide +kernel, rfl, by decide +kernel, by decide +kernel⟩
theorem ok_Pok  {f : Addr} {fd : FuncData} (F : Fun K "pieces_of_kinds" "pieces_of_kinds" sPok f fd) (B : Bi mg) (u_word : Use P w K mg base 1 "is_word" ["thing"] (spIs K isW)) (u_name : Use P w K mg base 1 "is_name" ["thing"] (spIs K isN)) (u_has : Use P w K mg base 1 "_has_all_parts" ["counts", "thing"] (spHas2 K)) : FnOk P w K mg base CX0 (2) f fd ["counts", "things"] (spPok K) := by
  refine F.ok scPok (fun vs H Q E h => ?_) (fun cdv A outer s H vs Q E hr h => ?_)
  · obtain ⟨cd, a, ws, ts, ks, rfl, _⟩ := h
    rfl
  · obtain ⟨cd, a, ws, ts, ks, rfl, hc, ha, hd, okr, k⟩ := h
    have line : sizeLine = 16777216 := sizeLine_eq
    refine ⟨_, (pss_cons (ps_set (i := 2) scPok.nd rfl (.inl rfl) (pe_lst pa_nil))
      (pss_cons (ps_set (i := 3) scPok.nd rfl (.inl rfl) pe_dnewK)
      (pss_cons (ps_set (i := 4) scPok.nd rfl (.inl rfl) (pe_callTy call_list_of (by rfl) B.list (by decide +kernel) (pa_cons (pv 1) pa_nil)))
      (pss_cons (ps_while PassesOwn.never (pt_truth (pv 4) (fun _ => rfl)) (pss_cons (ps_expr (pe_bm PySem.F.plainAttrs_list PySem.F.slot_list_extend PySem.F.type_list_extend mt_extend (pv 2) (pa_cons (pv 4) pa_nil)))
      (pss_cons (ps_set (i := 5) scPok.nd rfl (.inl rfl) (pe_lst pa_nil))
      (pss_cons (ps_for PassesOwn.never rfl (pi_list (pe_callTy call_list_of (by rfl) B.list (by decide +kernel) (pa_cons (pv 4) pa_nil))) (pg_name (i := 6) scPok.nd rfl (Or.inl rfl))
        (pss_one (ps_if (pt_val (pe_callB call_isi (by rfl) B.isinstance (by decide +kernel) (pa_cons (pv 6) (pa_cons (pe_bltn (v := .ty "str") rfl B.str (by decide +kernel) rfl) pa_nil)))) (pss_one (ps_dput (hu_of hr) (pv 3) (pv 6) pe_bl rfl)) (pss_one (ps_if (PW.pt (pw_and (pt_val (pe_callB call_isi (by rfl) B.isinstance (by decide +kernel) (pa_cons (pv 6) (pa_cons (pe_bltn (v := .ty "tuple") rfl B.tuple (by decide +kernel) rfl) pa_nil)))) (pw_and1 (pt_val (pe_use u_has (hr.mono (by omega)) rfl (pa_cons (pv 0) (pa_cons (pv 6) pa_nil))))))) (pss_one (ps_expr (pe_bm PySem.F.plainAttrs_list PySem.F.slot_list_extend PySem.F.type_list_extend mt_extendF (pv 5) (pa_cons (pe_slice sl_tupF (pv 6) (po_some pe_int) po_none) pa_nil)))) (pss_one (ps_ret pe_non)))))))
      (pss_one (ps_set (i := 4) scPok.nd rfl (.inl rfl) (pv 5)))))))
      (pss_one (ps_ret (pe_ifExp (pt_val (pe_lock (pe_callB (cr_all rfl) (by rfl) B.all (by decide +kernel) (pa_cons (pe_lc (own := [("leaf", 7)]) (g := (gName 7)) (tt := tYes) rfl scPok.nd (pi_keys (pv 3)) (blkOk_by (own := [("leaf", 7)]) (N := nPok) (sc := defScope sPok) (by decide +kernel)) (fun _ _ _ _ _ => (pg_name (i := 7) scPok.nd rfl (Or.inl rfl))) (fun _ _ _ _ _ => pts_nil) (fun _ _ _ _ _ => (pe_or (pe_use u_word (hr.mono (by omega)) rfl (pa_cons (pv 7) pa_nil)) (pe_one (pe_use u_name (hr.mono (by omega)) rfl (pa_cons (pv 7) pa_nil)))))) pa_nil)))) (pv 2) pe_non))))))), ?_⟩
    have thR : ∀ t ∈ ts, thing t = true := fun t h => (okr.each t h).th
    have tsA : thingAll ts = true := thingAll_iff.mpr thR
    have many := okr.many
    refine ⟨by show 0 ≤ sizeLine; omega, fun p hp => ?_⟩
    first | generalize hGp : upd _ p _ = H0 | (show Ends.nx _ _ (upd _ p _); generalize hGp : upd _ p _ = H0)
    have s0 := same_of_upd hp hGp
    have e0 := at_of_upd hGp
    refine fun lv hlv => ?_
    have plv : p ≠ lv := ne_of_none e0 hlv
    first | generalize hGlv : upd _ lv _ = Hv | (show Ends.nx _ _ (upd _ lv _); generalize hGlv : upd _ lv _ = Hv)
    have sv := same_of_upd hlv hGlv
    have ev := at_of_upd hGlv
    have e0v := sv _ _ e0
    have s0v : Same H Hv := same_tr s0 sv
    have ha0 : SqL K Hv a ws ∨ SqT K Hv a ws := ha.elim (fun z => .inl (sqL_sm s0v z)) (fun z => .inr (sqT_sm s0v z))
    have hd0 := ths_kt (kt_same s0v) ts ws tsA hd
    refine ⟨_, rfl, a, _, rfl, ha0, fun l hl => ?_⟩
    have lp : p ≠ l := ne_of_none e0v hl
    have llv : lv ≠ l := ne_of_none ev hl
    first | generalize hGl : upd _ l _ = H1 | (show Ends.nx _ _ (upd _ l _); generalize hGl : upd _ l _ = H1)
    have s1 := same_of_upd hl hGl
    have e1 := at_of_upd hGl
    have e0' := s1 _ _ e0v
    have ev' := s1 _ _ ev
    have hd1 := ths_kt (kt_same s1) ts ws tsA hd0
    have hlvH : H lv = none := by
      cases z : H lv with
      | none => rfl
      | some o => rw [s0 _ _ z] at hlv; cases hlv
    refine ⟨fun m σ H' => ∃ (D R : List PyData) (us ls : List V) (la : Addr) (kvs : List (Key × V)) (o5 o6 : Option V), σ = [some (.ref cd), some (.ref a), some (.ref p), some (.ref lv), some (.ref la), o5, o6, none] ∧ p ≠ la ∧ lv ≠ la ∧ H' p = some (.lst us) ∧ H' lv = some (.dK kvs) ∧ H' la = some (.lst ls) ∧ LvOk kvs D.length ∧ DpAll K H' us D ∧ DpAll K H' ls R ∧ BfsW ts D R ∧ Same H H' ∧ m = (ts.flatMap lot).length - D.length,
      ⟨_, [], ts, [], ws, l, [], none, none, rfl, lp, llv, e0', ev', e1, ⟨fun _ h => (nomatch h), Nat.le_refl _⟩, .nil, hd1, .init ts, same_tr s0v s1, rfl⟩, ?_⟩
    rintro m σ H' ⟨D, R, us, ls, la, kvs, o5, o6, rfl, pl, lvl, ep, elv, el, lok, du, dl, bw, sm, rfl⟩
    have ul := dps_len du
    have ll := dps_len dl
    have cnt := bw.count
    refine ⟨_, rfl, !ls.isEmpty, .inl ⟨_, SqL.of el, rfl⟩, ?_⟩
    rcases List.eq_nil_or_concat R with rfl | ⟨R0, r0, rR⟩
    · have : ls = [] := List.eq_nil_of_length_eq_zero (by rw [ll]; rfl)
      subst this
      have kl := lok.2
      rw [List.length_nil, Nat.add_zero] at cnt
      show Ends.nx _ _ H'
      refine ⟨lv, .dK kvs, elv, trivial, fun od => ?_⟩
      refine ⟨_, rfl, lv, od, rfl, .inl ⟨kvs, upd_same, fun L hL => ?_⟩⟩
      have lvL : lv ≠ L := ne_of_none upd_same hL
      have LH : H' L = none := by
        have : upd H' lv (.frz od (.dK kvs)) L = H' L := upd_ne (Ne.symm lvL)
        rw [← this]
        exact hL
      refine lc_it (walk_keys (d := lv) (o := od) (kvs := kvs)) (fun i H'' => H'' L = some (.lst ((List.replicate i true).map V.bl)) ∧ H'' lv = some (.frz od (.dK kvs)) ∧ ∀ b o, b ≠ lv → H' b = some o → H'' b = some o) ⟨upd_same, (upd_ne lvL).trans upd_same, fun b o n e => (upd_ne (ne_of_none e LH)).trans ((upd_ne n).trans e)⟩ (fun i H'' _ h => h.2.1) ?_ ?_
      · rintro i y H5' H5 hi ⟨e1, e2, e3⟩ ⟨rfl, kk, vv, hkv, rfl⟩
        obtain ⟨x, hx, ek⟩ := lok.1 (kk, vv) (List.mem_of_getElem? hkv)
        have ek : kk = Sum.inr x := ek
        subst ek
        have w8 := lv_len x hx
        refine ⟨rfl, ?_⟩
        refine yes_if ?_
        have fin : ∀ H6, Same H5 H6 → ∃ acc, H6 L = some (.lst acc) ∧ acc.length < sizeLine ∧ (upd H6 L (.lst (acc ++ [.bl true])) L = some (.lst ((List.replicate (i + 1) true).map V.bl)) ∧ upd H6 L (.lst (acc ++ [.bl true])) lv = some (.frz od (.dK kvs)) ∧ ∀ b o, b ≠ lv → H' b = some o → upd H6 L (.lst (acc ++ [.bl true])) b = some o) := fun H6 s6 => by
          refine ⟨_, s6 _ _ e1, ?_, ?_, (upd_ne lvL).trans (s6 _ _ e2), fun b o n e => (upd_ne (ne_of_none e LH)).trans (s6 _ _ (e3 b o n e))⟩
          · rw [List.length_map, List.length_replicate]
            have hi' : i < kvs.length := hi
            omega
          · rw [upd_same, rep_snoc]
        refine ⟨_, rfl, ?_⟩
        dsimp only [tNil]
        refine ⟨_, rfl, .inl ⟨x, rfl, by omega, fun H6 s6 => ⟨_, rfl, ?_⟩⟩⟩
        cases hw : isW x with
        | true => exact fin H6 s6
        | false =>
          refine ite2 (fun z => absurd z (by decide)) (fun _ => ?_)
          refine ⟨_, rfl, ?_⟩
          dsimp only [tNil]
          refine ⟨_, rfl, .inl ⟨x, rfl, by omega, fun H7 s7 => ?_⟩⟩
          have := lv_isWN x hx
          rw [hw, Bool.false_or] at this
          rw [this]
          exact fin H7 (same_tr s6 s7)
      · rintro H5 ⟨e1, e2, e3⟩
        refine ⟨L, _, rfl, SqL.of e1, ?_⟩
        rw [rep_all]
        refine ⟨e2, _, rfl, ?_⟩
        refine ite2 (fun _ => ?_) (fun z => absurd rfl z)
        have kt5 : KT K H' (upd H5 lv (.dK kvs)) := fun b xs q => by
          rcases q with (q | ⟨o, q⟩) | q
          · exact .inl (.inl ((upd_ne (ne_of q elv (by intro z; cases z))).trans (e3 b _ (ne_of q elv (by intro z; cases z)) q)))
          · exact .inl (.inr ⟨o, (upd_ne (ne_of q elv (by intro z; cases z))).trans (e3 b _ (ne_of q elv (by intro z; cases z)) q)⟩)
          · exact .inr q
        refine ⟨_, rfl, k p D us _ (fun b o e => (upd_ne (ne_of_none e hlvH)).trans (e3 b o (ne_of_none e hlvH) (sm _ _ e))) hp ((upd_ne plv).trans (e3 _ _ plv ep)) (ths_kt kt5 D us (thingAll_iff.mpr fun y hy => (BfsW.itk bw okr.each y (by simpa using hy)).th) du) bw.fin⟩
    · have Rne : 0 < R.length := by rw [rR, List.concat_eq_append]; simp
      have ne : (!ls.isEmpty) = true := by
        cases ls with
        | nil => rw [← ll] at Rne; simp at Rne
        | cons => rfl
      clear rR
      rw [if_pos ne]
      refine ⟨fun σ' H'' => ∃ m' < (ts.flatMap lot).length - D.length, ∃ (D R : List PyData) (us ls : List V) (la : Addr) (kvs : List (Key × V)) (o5 o6 : Option V), σ' = [some (.ref cd), some (.ref a), some (.ref p), some (.ref lv), some (.ref la), o5, o6, none] ∧ p ≠ la ∧ lv ≠ la ∧ H'' p = some (.lst us) ∧ H'' lv = some (.dK kvs) ∧ H'' la = some (.lst ls) ∧ LvOk kvs D.length ∧ DpAll K H'' us D ∧ DpAll K H'' ls R ∧ BfsW ts D R ∧ Same H H'' ∧ m' = (ts.flatMap lot).length - D.length, fun σ' H'' ⟨m', lt, z⟩ => ⟨m', lt, z⟩, ?_⟩
      have iall : ∀ y ∈ D ++ R, OkT ks y := BfsW.itk bw okr.each
      have tall : ∀ y ∈ D ++ R, thing y = true := fun y h => (iall y h).th
      have tD : thingAll D = true := thingAll_iff.mpr fun y hy => tall y (List.mem_append_left _ hy)
      have tR : thingAll R = true := thingAll_iff.mpr fun y hy => tall y (List.mem_append_right _ hy)
      have bl := bw.level
      have cnt2 := bl.count
      rw [List.length_append] at cnt2
      refine ⟨_, rfl, .inl ⟨rfl, _, SqL.of ep⟩, _, rfl, p, la, us, ls, rfl, rfl, ep, el, by omega, ?_⟩
      show Ends.nx _ _ (upd H' p (.lst (us ++ ls)))
      have kt2 : KT K H' (upd H' p (.lst (us ++ ls))) := kt_lst ep
      have e2 : upd H' p (.lst (us ++ ls)) p = some (.lst (us ++ ls)) := upd_same
      have el2 : upd H' p (.lst (us ++ ls)) la = some (.lst ls) := (upd_ne (Ne.symm pl)).trans el
      have elv2 : upd H' p (.lst (us ++ ls)) lv = some (.dK kvs) := (upd_ne (Ne.symm plv)).trans elv
      have du2 := ths_kt kt2 D us tD du
      have dl2 := ths_kt kt2 R ls tR dl
      have sm2 : Same H (upd H' p (.lst (us ++ ls))) := fun b o e => (upd_ne (ne_of_none e hp)).trans (sm _ _ e)
      generalize upd H' p (.lst (us ++ ls)) = H2 at e2 el2 elv2 du2 dl2 sm2
      refine ⟨by show 0 ≤ sizeLine; omega, fun fl hfl => ?_⟩
      have pf : p ≠ fl := ne_of_none e2 hfl
      have lvf : lv ≠ fl := ne_of_none elv2 hfl
      have flH : H fl = none := by
        cases z : H fl with
        | none => rfl
        | some o => rw [sm2 _ _ z] at hfl; cases hfl
      first | generalize hGfl : upd _ fl _ = H3a | (show Ends.nx _ _ (upd _ fl _); generalize hGfl : upd _ fl _ = H3a)
      have s3a := same_of_upd hfl hGfl
      have e3a := at_of_upd hGfl
      refine ⟨_, rfl, la, _, rfl, .inl (SqL.of (s3a _ _ el2)), fun lb hlb => ?_⟩
      have lbf : fl ≠ lb := ne_of_none e3a hlb
      have lblv : lb ≠ lv := Ne.symm (ne_of_none (s3a _ _ elv2) hlb)
      first | generalize hGlb : upd _ lb _ = H3 | (show Ends.nx _ _ (upd _ lb _); generalize hGlb : upd _ lb _ = H3)
      have s3b := same_of_upd hlb hGlb
      have eb3 := at_of_upd hGlb
      have s3 := same_tr s3a s3b
      have e3 := s3b _ _ e3a
      have hc3 := hc.same (same_tr sm2 s3)
      refine ⟨lb, rfl, ⟨_, SqL.of eb3⟩, ?_⟩
      refine for_it (walk_list (K := K) (a := lb) (xs := ls)) (fun i σ H4 => ∃ (o6 : Option V) (acc : List V) (kvs4 : List (Key × V)), σ = [some (.ref cd), some (.ref a), some (.ref p), some (.ref lv), some (.ref la), some (.ref fl), o6, none] ∧ H4 fl = some (.lst acc) ∧ H4 lv = some (.dK kvs4) ∧ LvOk kvs4 (D.length + i) ∧ DpAll K H4 acc ((R.take i).flatMap kids) ∧ (∀ b o, b ≠ fl → b ≠ lv → H3 b = some o → H4 b = some o) ∧ KT K H3 H4) ⟨_, [], kvs, rfl, e3, s3 _ _ elv2, lok, .nil, fun b o _ _ e => e, KT.refl⟩ (fun i σ H4 _ ⟨_, _, _, _, _, _, _, _, z, _⟩ => SqL.of (z _ _ (Ne.symm lbf) lblv eb3)) ?_ ?_
      · rintro i x σ H40 H4 hi ⟨o6, acc, kvs4, rfl, ef4, elv4, lok4, da4, z4, kt4⟩ ⟨rfl, hx⟩
        obtain ⟨d, hdR⟩ : ∃ d, R[i]? = some d := ⟨R[i]'(by rw [← ll]; exact hi), List.getElem?_eq_getElem _⟩
        obtain ⟨v, hv, dv⟩ := dps_at dl2 hdR
        have hx : ls[i]? = some x := hx
        rw [hx] at hv
        injection hv with hv
        subst hv
        have dm : d ∈ D ++ R := List.mem_append_right _ (List.mem_of_getElem? hdR)
        have td : thing d = true := tall d dm
        have idd := iall d dm
        have dv4 := th_kt ((kt_same s3).tr kt4) d x td dv
        have tk : (R.take (i + 1)).flatMap kids = (R.take i).flatMap kids ++ kids d := by
          rw [List.take_add_one, hdR]
          simp
        have szk : ((R.take i).flatMap kids).length + (kids d).length ≤ 10000 := by
          have : ((R.take (i + 1)).flatMap kids).length ≤ (R.flatMap kids).length := by
            conv => rhs; rw [← List.take_append_drop (i + 1) R]
            rw [List.flatMap_append, List.length_append]
            omega
          rw [tk, List.length_append] at this
          omega
        have il : i < R.length := (List.getElem?_eq_some_iff.mp hdR).1
        have tkA : thingAll ((R.take i).flatMap kids) = true := thingAll_iff.mpr fun y hy => by
          obtain ⟨z, hz, hy⟩ := List.mem_flatMap.mp hy
          exact thing_kids (tall z (List.mem_append_right _ (List.mem_of_mem_take hz))) hy
        have kvl := lok4.2
        rcases th_cases td dv4 with ⟨c, rfl, rfl⟩ | ⟨b, c, zs, ps, rfl, rfl, hb, hzs, pne, hps⟩
        · refine ⟨_, rfl, _, _, _, _, true, rfl, .ty "str", .base (.str _), kit_ty rfl, _, rfl, ite2 (fun _ => ?_) (fun z => absurd rfl z)⟩
          refine ⟨_, rfl, _, rfl, lv, _, rfl, .k (k := .inr c) elv4 (by omega), ?_⟩
          have ktp : KT K H4 (upd H4 lv (.dK (putK kvs4 (.inr c) (.bl true)))) := kt_dk elv4
          refine ⟨_, acc, putK kvs4 (.inr c) (.bl true), rfl, (upd_ne (Ne.symm lvf)).trans ef4, upd_same, ?_, ?_, fun b o n1 n2 e => (upd_ne n2).trans (z4 b o n1 n2 e), kt4.tr ktp⟩
          · exact lok4.put ((okT_iv idd)) _
          · rw [tk]
            have := ths_kt ktp _ _ tkA da4
            simpa [kids] using this
        · have kn : kids (.tuple (.str c :: ps)) = ps := rfl
          rw [kn] at szk tk
          have zl := dps_len hzs
          have tps : thingAll ps = true := thingAll_iff.mpr hps
          obtain ⟨cm, cw, cp⟩ := idd.kid
          have psl : 0 < ps.length := List.length_pos_iff.mpr pne
          refine ⟨_, rfl, _, _, _, _, false, rfl, .ty "str", sqT_ty' hb, kit_ty rfl, _, rfl, ite2 (fun z => absurd z (by decide)) (fun _ => ?_)⟩
          refine ⟨_, rfl, _, _, _, _, true, rfl, .ty "tuple", sqT_ty' hb, kit_ty rfl, _, rfl, ite2 (fun _ => ?_) (fun z => absurd rfl z)⟩
          have hc4 : Cnt H4 cd ks := by
            obtain ⟨kv0, q1, q2⟩ := hc3
            obtain ⟨kv1, q3, q4⟩ := hc
            have n1 : cd ≠ fl := ne_of_none q3 flH
            have n2 : cd ≠ lv := ne_of_none q3 hlvH
            exact ⟨kv0, z4 _ _ n1 n2 q1, q2⟩
          refine ⟨_, rfl, _, rfl, cd, b, c, zs, ks, rfl, hc4, hb, by rw [zl]; exact cm, by omega, fun H5 s5 => ⟨_, rfl, ite2 (fun _ => ?_) (fun z => absurd rfl z)⟩⟩
          have ef5 := s5 _ _ ef4
          have hb5 := sqT_same s5 hb
          refine ⟨_, rfl, .inl ⟨rfl, _, SqL.of ef5⟩, _, rfl, _, rfl, b, _, rfl, hb5, by simp [HT.sIx], fun q o hq ho => ?_⟩
          rw [cut1']
          have eq1 : upd H5 q (.frz o (.tup zs)) fl = some (.lst acc) := (upd_ne (ne_of_none ef5 hq)).trans ef5
          refine ⟨fl, q, o, acc, zs, rfl, rfl, eq1, upd_same, ho, by rw [zl, dps_len da4]; omega, ?_⟩
          have kt5 : KT K H4 (upd (upd H5 q (.frz o (.tup zs))) fl (.lst (acc ++ zs))) := ((kt_same s5).tr (kt_new hq)).tr (kt_lst eq1)
          have elv5 := s5 _ _ elv4
          refine ⟨_, acc ++ zs, kvs4, rfl, upd_same, (upd_ne lvf).trans ((upd_ne (ne_of_none elv5 hq)).trans elv5), lok4.up (by omega), ?_, fun b' o' n1 n2 e => (upd_ne n1).trans ((upd_ne (ne_of_none (s5 _ _ (z4 b' o' n1 n2 e)) hq)).trans (s5 _ _ (z4 b' o' n1 n2 e))), kt4.tr kt5⟩
          rw [tk]
          have all : thingAll ((R.take i).flatMap kids ++ ps) = true := thingAll_iff.mpr fun y hy => by
            rcases List.mem_append.mp hy with hy | hy
            · exact thingAll_iff.mp tkA y hy
            · exact hps y hy
          exact ths_kt kt5 _ _ all (dps_app da4 hzs)
      · rintro σ H4 ⟨o6, acc, kvs4, rfl, ef4, elv4, lok4, da4, z4, kt4⟩
        have tk : R.take ls.length = R := List.take_of_length_le (by omega)
        rw [tk] at da4
        have ktA := (kt_same s3).tr kt4
        refine ⟨_, rfl, (ts.flatMap lot).length - (D ++ R).length, by rw [List.length_append]; omega, D ++ R, R.flatMap kids, us ++ ls, acc, fl, kvs4, _, _, rfl, pf, lvf, z4 _ _ pf plv (s3 _ _ e2), elv4, ef4, ?_, ?_, da4, bl, fun b o e => ?_, rfl⟩
        · rw [List.length_append, ← ll]
          exact lok4
        · exact ths_kt ktA _ _ (thingAll_iff.mpr tall) (dps_app du2 dl2)
        · exact z4 b o (ne_of_none e flH) (ne_of_none e hlvH) (s3 _ _ (sm2 _ _ e))
end
end K09


namespace K09
open PySem PySem.Spec PyProof.Rows L2 Mine TL
/-! Names and pieces of things, told by their texts; rows, by the program. -/
abbrev sNap : Stmt := top 29
abbrev sRInit : Stmt := inClass (top 28) 0
def chA : Str := PySem.Str.ofString "a"
/-- whether a thing is a name -/
def nameD : PyData → Bool
  | .str x => isN x
  | _ => false
/-- by its text, too -/
def NmL (Ps : List PyData) : Prop := ∀ d ∈ Ps, decide ((txt d).cps.toList < chA.cps.toList) = nameD d
theorem chA_l : chA.cps.toList = [97] := by decide +kernel
theorem lv_low : ∀ x ∈ LV, decide (x.cps.toList < chA.cps.toList) = isN x := by decide +kernel
theorem kw_low : ∀ c ∈ W8, 97 ≤ c.cps.toList.headD 0 := by decide +kernel
theorem cons_nlt {a : Nat} {l : List Nat} (h : 97 ≤ a) : ¬ ((a :: l : List Nat) < [97]) := by
  intro z
  cases z with
  | rel z => omega
  | cons z => cases z
theorem nmL_it {Ps : List PyData} (h : ∀ d ∈ Ps, drawn d = true) : NmL Ps := fun d hd => by
  rcases drawn_cases (h d hd) with ⟨c, rfl, hc⟩ | ⟨c, ps, rfl, ne, hc, hpp⟩
  · rw [txt_str]
    exact lv_low c hc
  · show _ = false
    refine decide_eq_false ?_
    rw [txt_tup, chA_l]
    have hl := kw_low c hc
    have e : (c ++ PySem.Str.ofString "(" ++ Str.join (PySem.Str.ofString ",") (ps.map txt) ++ PySem.Str.ofString ")").cps.toList = c.cps.toList ++ ((PySem.Str.ofString "(").cps.toList ++ ((Str.join (PySem.Str.ofString ",") (ps.map txt)).cps.toList ++ (PySem.Str.ofString ")").cps.toList)) := by
      have := tl_append
      simp only [tl] at this
      simp only [this, List.append_assoc]
    rw [e]
    cases q : c.cps.toList with
    | nil => rw [q] at hl; simp at hl
    | cons a r =>
      rw [q] at hl
      have hl : 97 ≤ a := hl
      rw [List.cons_append]
      exact cons_nlt hl
/-- those of the things' texts that are names, ascending -/
structure NmsOf (ys : List Str) (Ps : List PyData) : Prop where
  asc : ys.Pairwise LtS
  mem : ∀ x, x ∈ ys ↔ ∃ d ∈ Ps, txt d = x ∧ nameD d = true
def spNap (K : PySem.W.Frag) : Sp := fun vs H Q _ => ∃ (q : Addr) (kvs : List (Key × V)) (Ps : List PyData), vs = [.ref q] ∧ H q = some (.dK kvs) ∧ (kvs.map (·.1)).Nodup ∧ (∀ k v, valV kvs k = some v → ∃ d ∈ Ps, k = Sum.inr (txt d) ∧ Dp K H v d) ∧
  (∀ k, k ∈ kvs.map (·.1) ↔ ∃ d ∈ Ps, k = Sum.inr (txt d)) ∧ kvs.length ≤ 10000 ∧ (∀ p ∈ Ps, thW p = true) ∧ NmL Ps ∧
  ∀ (t n p : Addr) (ys : List Str) (ps : List V) (pds : List PyData) (H' : Hp), Same H H' → H' t = some (.tup [.ref n, .ref p]) → H' n = some (.tup (ys.map V.str)) → H' p = some (.tup ps) → DpAll K H' ps pds → NmsOf ys Ps → AscOf pds Ps → Q (.ref t) H'
section
variable {P : Program} {w : World} {K : PySem.W.Frag} {mg : Str → Option Value} {base : Heap}
abbrev nNap : List Str := ["by_text", "texts", "text"]
theorem scNap : FnScope nNap ["by_text"] (defScope sNap) := ⟨rfl, rfl, rfl, by decide +kernel, rfl, by decide +kernel, by decide +kernel⟩
theorem ok_Nap  {f : Addr} {fd : FuncData} (F : Fun K "_names_and_pieces" "_names_and_pieces" sNap f fd) (B : Bi mg) : FnOk P w K mg base CX0 (1) f fd ["by_text"] (spNap K) := by
  refine F.ok scNap (fun vs H Q E h => ?_) (fun cdv A outer s H vs Q E hr h => ?_)
  · obtain ⟨q, kvs, Ps, rfl, _⟩ := h
    rfl
  · obtain ⟨q, kvs, Ps, rfl, eq1, nd, val, memk, len, hw, nml, k⟩ := h
    have line : sizeLine = 16777216 := sizeLine_eq
    refine ⟨_, (pss_cons (ps_set (i := 1) scNap.nd rfl (.inl rfl) (pe_callB (call_sortedDA rfl) (by rfl) B.sorted (by decide +kernel) (pa_cons (pv 0) pa_nil)))
      (pss_one (ps_ret (pe_tup (pa_cons (pe_callTy call_tuple_of (by rfl) B.tuple (by decide +kernel) (pa_cons (pe_lc (own := [("text", 2)]) (g := (gName 2)) rfl scNap.nd (pi_list (pv 1)) (blkOk_by (own := [("text", 2)]) (N := nNap) (sc := defScope sNap) (by decide +kernel)) (fun _ _ _ _ _ => (pg_name (i := 2) scNap.nd rfl (Or.inl rfl))) (fun _ _ _ _ _ => (pts_one (pt_cmpR op_lt_str (pv 2) pe_str (nomark _)))) (fun _ _ _ _ _ => (pv 2))) pa_nil)) (pa_cons (pe_callTy call_tuple_of (by rfl) B.tuple (by decide +kernel) (pa_cons (pe_lc (own := [("text", 2)]) (g := (gName 2)) (tt := tYes) rfl scNap.nd (pi_list (pv 1)) (blkOk_by (own := [("text", 2)]) (N := nNap) (sc := defScope sNap) (by decide +kernel)) (fun _ _ _ _ _ => (pg_name (i := 2) scNap.nd rfl (Or.inl rfl))) (fun _ _ _ _ _ => pts_nil) (fun _ _ _ _ _ => (pe_dget (hu_of hr) (pv 0) (pv 2) (fun _ _ => rfl)))) pa_nil)) pa_nil)))))), ?_⟩
    have keys : kvs.map (·.1) = (kvs.map fun kv => keyS kv.1).map (Sum.inr : Str → Key) := by
      rw [List.map_map]
      refine List.map_congr_left fun kv hkv => ?_
      obtain ⟨d, _, e⟩ := (memk kv.1).mp (List.mem_map_of_mem hkv)
      show kv.1 = Sum.inr (keyS kv.1)
      rw [e]
      rfl
    refine ⟨_, rfl, q, kvs, kvs.map fun kv => keyS kv.1, rfl, Rd.of eq1, keys, fun ys p perm srt hp => ?_⟩
    have yl : ys.length ≤ 10000 := by
      rw [perm.length_eq, List.length_map]
      exact len
    have ymem : ∀ y, y ∈ ys ↔ ∃ d ∈ Ps, txt d = y := fun y => by
      rw [perm.mem_iff]
      have z : y ∈ (kvs.map fun kv => keyS kv.1) ↔ (Sum.inr y : Key) ∈ kvs.map (·.1) := by
        rw [keys]
        simp
      rw [z, memk]
      exact ⟨fun ⟨d, hd, e⟩ => ⟨d, hd, (Sum.inr.inj e).symm⟩, fun ⟨d, hd, e⟩ => ⟨d, hd, by rw [e]⟩⟩
    have ynd : ys.Nodup := by
      rw [perm.nodup_iff]
      have : ((kvs.map fun kv => keyS kv.1).map (Sum.inr : Str → Key)).Nodup := by rw [← keys]; exact nd
      exact List.Pairwise.of_map (S := (· ≠ ·)) _ (fun a b h e => h (by rw [e])) this
    have yasc : ys.Pairwise LtS := asc_sorted srt ynd
    first | generalize hGp : upd _ p _ = H1 | (show Ends.nx _ _ (upd _ p _); generalize hGp : upd _ p _ = H1)
    have s1 := same_of_upd hp hGp
    have ep := at_of_upd hGp
    have thd : ∀ z ∈ Ps, thing z = true := fun z hz => thW_thing _ z (Nat.le_refl _) (hw z hz)
    refine ⟨_, rfl, p, rfl, ⟨_, SqL.of ep⟩, fun D hD => ?_⟩
    have pD : p ≠ D := ne_of_none ep hD
    refine lc_list (K := K) (a := p) (xs := ys.map V.str) (fun i H' => H' D = some (.lst (((ys.take i).filter fun y => decide (y.cps.toList < chA.cps.toList)).map V.str)) ∧ Same H1 H')
      ⟨upd_same, same_new same_rfl hD⟩ (fun i H' _ h => SqL.of (h.2 _ _ ep)) ?_ ?_
    · rintro i y H' hi ⟨eD, sm⟩
      rw [List.getElem?_map] at hi
      obtain ⟨x, hx, rfl⟩ := Option.map_eq_some_iff.mp hi
      refine ⟨rfl, ?_⟩
      have il : i < ys.length := (List.getElem?_eq_some_iff.mp hx).1
      have tk : ys.take (i + 1) = ys.take i ++ [x] := by rw [List.take_add_one, hx]; rfl
      refine ⟨_, rfl, _, _, rfl, rfl, _, rfl, ?_⟩
      show (if (decide (x.cps.toList < chA.cps.toList)) = true then _ else _)
      cases hc : decide (x.cps.toList < chA.cps.toList) with
      | true =>
        refine ite2 (fun _ => ?_) (fun z => absurd rfl z)
        refine ⟨_, rfl, _, eD, ?_, ?_, fun b o e => (upd_ne (ne_of_none e hD)).trans (sm _ _ e)⟩
        · rw [List.length_map]
          have := List.length_filter_le (fun y => decide (y.cps.toList < chA.cps.toList)) (ys.take i)
          rw [List.length_take] at this
          omega
        · rw [upd_same, tk, List.filter_append, List.map_append, List.filter_cons_of_pos (by exact hc), List.filter_nil]
          rfl
      | false =>
        refine ite2 (fun z => absurd z (by decide)) (fun _ => ?_)
        refine ⟨?_, sm⟩
        rw [eD, tk, List.filter_append, List.filter_cons_of_neg (by rw [hc]; decide), List.filter_nil, List.append_nil]
    rintro H2 ⟨eD, sm⟩
    rw [List.length_map, List.take_of_length_le (Nat.le_refl _)] at eD
    refine ⟨D, _, rfl, .inl ⟨SqL.of eD, fun t ht => ?_⟩⟩
    have s3 : Same H1 (upd H2 t (.tup ((ys.filter fun y => decide (y.cps.toList < chA.cps.toList)).map V.str))) := same_new sm ht
    have et : upd H2 t (.tup ((ys.filter fun y => decide (y.cps.toList < chA.cps.toList)).map V.str)) t = some (.tup ((ys.filter fun y => decide (y.cps.toList < chA.cps.toList)).map V.str)) := upd_same
    generalize upd H2 t (.tup ((ys.filter fun y => decide (y.cps.toList < chA.cps.toList)).map V.str)) = H3 at s3 et
    have nms : NmsOf (ys.filter fun y => decide (y.cps.toList < chA.cps.toList)) Ps := by
      refine ⟨yasc.filter _, fun x => ?_⟩
      rw [List.mem_filter, ymem]
      constructor
      · rintro ⟨⟨d, hd, rfl⟩, h⟩
        exact ⟨d, hd, rfl, by rw [← nml d hd]; exact h⟩
      · rintro ⟨d, hd, rfl, h⟩
        exact ⟨⟨d, hd, rfl⟩, by have := nml d hd; rw [h] at this; exact this⟩
    generalize (ys.filter fun y => decide (y.cps.toList < chA.cps.toList)) = ns at et nms
    refine ⟨_, rfl, p, rfl, ⟨_, SqL.of (s3 _ _ ep)⟩, fun D2 hD2 => ?_⟩
    have s13 := same_tr s1 s3
    refine lc_list (K := K) (a := p) (xs := ys.map V.str) (fun i H' => ∃ (ws : List V) (ds : List PyData), H' D2 = some (.lst ws) ∧ DpAll K H' ws ds ∧ ds.map txt = ys.take i ∧ (∀ d ∈ ds, d ∈ Ps) ∧ Same H3 H')
      ⟨[], [], upd_same, .nil, by simp, fun _ z => (List.not_mem_nil z).elim, same_new same_rfl hD2⟩ (fun i H' _ ⟨_, _, _, _, _, _, z⟩ => SqL.of (z _ _ (s3 _ _ ep))) ?_ ?_
    · rintro i y H' hi ⟨ws, ds, eD', dp, et', dm, sm'⟩
      rw [List.getElem?_map] at hi
      obtain ⟨x, hx, rfl⟩ := Option.map_eq_some_iff.mp hi
      obtain ⟨d0, hd0, e0⟩ := (ymem x).mp (List.mem_of_getElem? hx)
      have ik : (Sum.inr x : Key) ∈ kvs.map (·.1) := (memk _).mpr ⟨d0, hd0, by rw [e0]⟩
      obtain ⟨v, hv⟩ := val_some ik
      obtain ⟨d, hdP, ed, dv⟩ := val _ _ hv
      have ed' : txt d = x := (Sum.inr.inj ed).symm
      refine ⟨rfl, ?_⟩
      refine yes_if ?_
      have wl : ws.length = i := by
        rw [dps_len dp]
        have := congrArg List.length et'
        rw [List.length_map, List.length_take] at this
        have : i < ys.length := (List.getElem?_eq_some_iff.mp hx).1
        omega
      have il : i < ys.length := (List.getElem?_eq_some_iff.mp hx).1
      refine ⟨_, rfl, _, rfl, q, v, rfl, .inl ⟨kvs, Sum.inr x, Rd.of (sm' _ _ (s13 _ _ eq1)), rfl, hv.symm⟩, ws, eD', by omega, ws ++ [v], ds ++ [d], upd_same, ?_, ?_, ?_, fun b1 o1 e1 => (upd_ne (ne_of_none e1 hD2)).trans (sm' _ _ e1)⟩
      · have kt1 : KT K H' (upd H' D2 (.lst (ws ++ [v]))) := kt_lst eD'
        exact dps_app (ths_kt kt1 ds ws (thingAll_iff.mpr fun z hz => thd z (dm z hz)) dp) (.cons (th_kt (kt_same (same_tr s13 sm')) d v (thd d hdP) dv |> th_kt kt1 d v (thd d hdP)) .nil)
      · rw [List.map_append, et', List.take_add_one, hx, List.map_cons, ed']
        rfl
      · intro z hz
        rcases List.mem_append.mp hz with hz | hz
        · exact dm z hz
        · rw [List.mem_singleton.mp hz]
          exact hdP
    rintro H' ⟨ws, ds, eD', dp, et', dm, sm'⟩
    rw [List.length_map, List.take_of_length_le (Nat.le_refl _)] at et'
    refine ⟨D2, _, rfl, .inl ⟨SqL.of eD', fun u hu => ?_⟩⟩
    have su : Same H' (upd H' u (.tup ws)) := same_new same_rfl hu
    have eu : upd H' u (.tup ws) u = some (.tup ws) := upd_same
    have dpu := ths_kt (kt_same (K := K) su) ds ws (thingAll_iff.mpr fun z hz => thd z (dm z hz)) dp
    generalize upd H' u (.tup ws) = H4 at su eu dpu
    refine ⟨by show 2 ≤ sizeLine; omega, fun tt htt => ?_⟩
    have sT : Same H4 (upd H4 tt (.tup [.ref t, .ref u])) := same_new same_rfl htt
    have sA := same_tr s13 (same_tr sm' (same_tr su sT))
    refine k tt t u ns ws ds _ sA upd_same (sT _ _ (su _ _ (sm' _ _ et))) (sT _ _ eu) (ths_kt (kt_same sT) ds ws (thingAll_iff.mpr fun z hz => thd z (dm z hz)) dpu) nms ⟨by rw [et']; exact yasc, fun d => ⟨dm d, fun hd1 => ?_⟩⟩
    have : txt d ∈ ds.map txt := by
      rw [et']
      exact (ymem _).mpr ⟨d, hd1, rfl⟩
    obtain ⟨d', hd', e'⟩ := List.mem_map.mp this
    rw [← txt_inj (hw d' (dm d' hd')) (hw d hd1) e']
    exact hd'
abbrev nRInit : List Str := ["self", "book", "things", "pieces", "thing"]
theorem scRInit : FnScope nRInit ["self", "book", "things"] (defScope sRInit) := ⟨rfl, rfl, rfl, by decide +kernel, rfl, by decide +kernel, by decide +kernel⟩
theorem ok_RInit {CB CR : Addr} (clB : Cls K CB) (nK : NoAttr K CB "kinds") (cl : Cls K CR) (nB : NoAttr K CR "book") (nT : NoAttr K CR "things") (nN : NoAttr K CR "names") (nP : NoAttr K CR "pieces") {f : Addr} {fd : FuncData} (F : Fun K "__init__" "Row.__init__" sRInit f fd) (B : Bi mg) (u_pok : Use P w K mg base 2 "pieces_of_kinds" ["counts", "things"] (spPok K)) (u_texts : Use P w K mg base 1 "all_texts" ["pieces"] (spTexts K)) (u_nap : Use P w K mg base 1 "_names_and_pieces" ["by_text"] (spNap K)) : FnOk P w K mg base CX0 (3) f fd ["self", "book", "things"] (spRInit K CB CR) := by
  refine F.ok scRInit (fun vs H Q E h => ?_) (fun cdv A outer s H vs Q E hr h => ?_)
  · obtain ⟨x, dx, b, t, ks, os, ws, ds, rfl, _⟩ := h
    rfl
  · obtain ⟨x, dx, b, t, ks, os, ws, ds, rfl, hx, hb, ht, hd, okr, k⟩ := h
    have line : sizeLine = 16777216 := sizeLine_eq
    refine ⟨_, (pss_cons (ps_if (pt_not (pt_val (pe_callB call_isi (by rfl) B.isinstance (by decide +kernel) (pa_cons (pv 2) (pa_cons (pe_bltn (v := .ty "tuple") rfl B.tuple (by decide +kernel) rfl) pa_nil))))) (pss_one ps_dead) pss_nil)
      (pss_cons (ps_set (i := 3) scRInit.nd rfl (.inl rfl) (pe_use u_pok (hr.mono (by omega)) rfl (pa_cons (pe_callTy (call_dictPT rfl) (by rfl) B.dict (by decide +kernel) (pa_cons (pe_fld (pv 1) rfl) pa_nil)) (pa_cons (pv 2) pa_nil))))
      (pss_cons (ps_if (pt_cmpR op_isN (pv 3) pe_non (nomark _)) (pss_one ps_dead) pss_nil)
      (pss_cons (ps_fld (pv 0) (pv 1) rfl)
      (pss_cons (ps_fld (pv 0) (pv 2) rfl)
      (pss_one (ps_asg (pe_use u_nap (hr.mono (by omega)) rfl (pa_cons (pe_dictZip rfl (by rfl) B.dict (by rfl) B.zip (pa_cons (pe_use u_texts (hr.mono (by omega)) rfl (pa_cons (pv 3) pa_nil)) (pa_cons (pv 3) pa_nil))) pa_nil)) (pg_tup rfl (pgs_cons (pg_fld (pv 0)) (pgs_cons (pg_fld (pv 0)) pgs_nil)))))))))), ?_⟩
    obtain ⟨dxb, kk, oo, ps, as, hbi, hk, ho⟩ := hb.ex
    have thR : ∀ t ∈ ds, thing t = true := fun t h => (okr.each t h).th
    have tsA : thingAll ds = true := thingAll_iff.mpr thR
    refine ⟨_, rfl, _, _, _, _, true, rfl, .ty "tuple", sqT_ty ht, kit_ty rfl, _, rfl, ite2 (fun z => absurd z (by decide)) (fun _ => ?_)⟩
    refine ⟨_, rfl, _, _, _, _, _, rfl, hbi, clB, nK, rfl, kk, ps, _, rfl, hk.at_, paired_kv hk.each, fun cd hcd => ?_⟩
    have hc0 : Cnt (upd H cd (.dK (mergeK [] (ks.map kvOf)))) cd ks := cnt_new hb.kok.nd
    first | generalize hGcd : upd _ cd _ = H1 | (show Ends.nx _ _ (upd _ cd _); generalize hGcd : upd _ cd _ = H1)
    have s1 := same_of_upd hcd hGcd
    have e1 := at_of_upd hGcd
    rw [hGcd] at hc0
    refine ⟨_, rfl, cd, t, ws, ds, ks, rfl, hc0, .inr (sqT_same s1 ht), ths_kt (kt_same s1) ds ws tsA hd, okr, fun p P us H2 s2 hp ep dp bf => ?_⟩
    refine ⟨_, rfl, rfl, _, rfl, ite2 (fun z => absurd z (by show ¬ decide (V.ref p = V.non) = true; rw [decide_eq_false (by intro z; cases z)]; decide)) (fun _ => ?_)⟩
    have hx1 := s1 _ _ hx
    have hx2 := s2 _ _ hx1
    have xp : x ≠ p := ne_of_none hx1 hp
    have s12 := same_tr s1 s2
    refine ⟨_, rfl, _, rfl, x, CR, dx, [], rfl, hx2, cl, nB, (by show 0 < 1000; decide), _, rfl, _, rfl, x, CR, dx, _, rfl, upd_same, cl, nT, (by show 1 < 1000; decide), ?_⟩
    rw [upd_upd]
    show Ends.nx _ _ (upd H2 x (.ins CR dx [(PySem.Str.ofString "book", .ref b), (PySem.Str.ofString "things", .ref t)]))
    have kt3 : KT K H2 (upd H2 x (.ins CR dx [(PySem.Str.ofString "book", .ref b), (PySem.Str.ofString "things", .ref t)])) := kt_ins hx2
    have ex3 : upd H2 x (.ins CR dx [(PySem.Str.ofString "book", .ref b), (PySem.Str.ofString "things", .ref t)]) x = some (.ins CR dx [(PySem.Str.ofString "book", .ref b), (PySem.Str.ofString "things", .ref t)]) := upd_same
    have ep3 : upd H2 x (.ins CR dx [(PySem.Str.ofString "book", .ref b), (PySem.Str.ofString "things", .ref t)]) p = some (.lst us) := (upd_ne (Ne.symm xp)).trans ep
    have of3 : ∀ b' o, b' ≠ x → H b' = some o → upd H2 x (.ins CR dx [(PySem.Str.ofString "book", .ref b), (PySem.Str.ofString "things", .ref t)]) b' = some o := fun b' o n e => (upd_ne n).trans (s12 _ _ e)
    have fits := okr.fits bf
    have dp3 := ths_kt kt3 P us (thingAll_iff.mpr fits.things) dp
    generalize upd H2 x (.ins CR dx [(PySem.Str.ofString "book", .ref b), (PySem.Str.ofString "things", .ref t)]) = H3 at ex3 ep3 of3 dp3
    have ul := dps_len dp
    refine ⟨_, rfl, p, us, ds, P, rfl, ep3, dp3, fits, fun tq H4 s4 htq etq => ?_⟩
    have dp4 := ths_kt (kt_same (K := K) s4) P us (thingAll_iff.mpr fits.things) dp3
    refine ⟨_, rfl, tq, p, P.map fun d => (Sum.inr (txt d) : Key), us, rfl, ?_, SqL.of (s4 _ _ ep3), by rw [List.length_map]; exact ul.symm, fun q hq => ?_⟩
    · have e : (P.map fun d => (Sum.inr (txt d) : Key)).map kV = (P.map txt).map V.str := by
        rw [List.map_map, List.map_map]
        rfl
      rw [e]
      exact SqL.of etq
    obtain ⟨nd, val, mem⟩ := merge_all (R := fun k v => ∃ d ∈ P, k = Sum.inr (txt d) ∧ Dp K H4 v d) (l := (P.map fun d => (Sum.inr (txt d) : Key)).zip us) (kvs := []) (by simp) (fun k v h => nomatch h) (mem_zip_dp dp4)
    have memk : ∀ k, k ∈ (mergeK [] ((P.map fun d => (Sum.inr (txt d) : Key)).zip us)).map (·.1) ↔ ∃ d ∈ P, k = Sum.inr (txt d) := fun k => by
      rw [mem k, List.map_fst_zip (by rw [List.length_map]; omega)]
      simp only [List.map_nil, List.not_mem_nil, false_or, List.mem_map]
      exact ⟨fun ⟨d, hd, e⟩ => ⟨d, hd, e.symm⟩, fun ⟨d, hd, e⟩ => ⟨d, hd, e.symm⟩⟩
    have len := length_mergeK ((P.map fun d => (Sum.inr (txt d) : Key)).zip us) []
    rw [List.length_zip, List.length_map] at len
    generalize mergeK [] ((P.map fun d => (Sum.inr (txt d) : Key)).zip us) = kvs at nd val memk len
    have s5 : Same H4 (upd H4 q (.dK kvs)) := same_new same_rfl hq
    have e5 : upd H4 q (.dK kvs) q = some (.dK kvs) := upd_same
    generalize upd H4 q (.dK kvs) = H5 at s5 e5
    have its : ∀ d ∈ P, drawn d = true := fun d hd => by
      obtain ⟨t, ht1, ht2⟩ := List.mem_flatMap.mp (bf.perm.mem_iff.mp hd)
      exact (okT_lot _ t (Nat.le_refl _) (okr.each t ht1) d ht2).dr
    refine ⟨q, kvs, P, rfl, e5, nd, fun k v h => ?_, memk, by have := fits.many; simp only [List.length_nil] at len; omega, fun d hd => drawn_thing _ d (Nat.le_refl _) (its d hd), nmL_it its, fun t5 n5 p5 ys ps5 pds H6 s6 et5 en5 ep5 dp6 nms asc => ?_⟩
    · obtain ⟨d, hd, e, dv⟩ := val k v h
      exact ⟨d, hd, e, th_kt (kt_same s5) d v (fits.things d hd) dv⟩
    have s36 : Same H3 H6 := same_tr s4 (same_tr s5 s6)
    have ex6 := s36 _ _ ex3
    refine ⟨t5, _, rfl, SqT.of et5, rfl, _, _, rfl, _, rfl, x, CR, dx, _, rfl, ex6, cl, nN, (by show 2 < 1000; decide), _, _, rfl, _, rfl, x, CR, dx, _, rfl, upd_same, cl, nP, (by show 3 < 1000; decide), rfl, ?_⟩
    rw [upd_upd]
    have n5x : n5 ≠ x := ne_of en5 ex6 (by intro z; cases z)
    have p5x : p5 ≠ x := ne_of ep5 ex6 (by intro z; cases z)
    refine k n5 p5 ys ps5 pds _ (fun b' o n e => (upd_ne n).trans (s36 _ _ (of3 b' o n e))) upd_same ((upd_ne n5x).trans en5) ((upd_ne p5x).trans ep5) (ths_kt (kt_ins ex6) pds ps5 (thingAll_iff.mpr fun z hz => fits.things z ((asc.mem z).mp hz)) dp6) ⟨nms.asc, fun y => ?_⟩ ⟨asc.asc, fun z => (asc.mem z).trans (bf.perm.mem_iff)⟩
    rw [nms.mem]
    constructor
    · rintro ⟨d, hd, rfl, hn⟩
      cases d with
      | str y =>
        rw [txt_str]
        exact ⟨bf.perm.mem_iff.mp hd, hn⟩
      | _ => cases hn
    · rintro ⟨h1, h2⟩
      exact ⟨.str y, bf.perm.mem_iff.mpr h1, txt_str y, h2⟩
end
end K09


set_option Elab.async false
set_option linter.all false
set_option maxRecDepth 100000
set_option maxHeartbeats 4000000
/-! Rows that stand; their texts; == of rows. -/
namespace K09
open PySem PySem.Spec PyProof.Rows L2 Mine TL SkE StX
abbrev sTextsOf : Stmt := top 16
abbrev sRStr : Stmt := inClass (top 28) 2
abbrev sREq : Stmt := inClass (top 28) 1
structure RowAt (K : PySem.W.Frag) (CB CR : Addr) (H : Hp) (r : Addr) (ks : List (Str × Int)) (os : List Opn) (ds : List PyData) : Prop where
  ex : ∃ (dx b t n p : Addr) (ws ps : List V) (pds : List PyData) (ys : List Str), H r = some (.ins CR dx (fsR b t n p)) ∧ BkAt K CB H b ks os ∧ SqT K H t ws ∧ DpAll K H ws ds ∧ H n = some (.tup (ys.map V.str)) ∧ H p = some (.tup ps) ∧ DpAll K H ps pds ∧ ThoseL isN ds ys ∧ AscOf pds (ds.flatMap lot)
  ok : OkR ks ds
theorem RowAt.same {K : PySem.W.Frag} {CB CR : Addr} {H H' : Hp} {r : Addr} {ks : List (Str × Int)} {os : List Opn} {ds : List PyData} (h : RowAt K CB CR H r ks os ds) (s : Same H H') : RowAt K CB CR H' r ks os ds :=
  let ⟨dx, b, t, n, p, ws, ps, pds, ys, h1, h2, h3, h4, h5, h6, h7, h8, h9⟩ := h.ex
  ⟨⟨dx, b, t, n, p, ws, ps, pds, ys, s _ _ h1, h2.same s, kt_same s _ _ h3, dps_same s _ _ h4, s _ _ h5, s _ _ h6, dps_same s _ _ h7, h8, h9⟩, h.ok⟩
def rowT (ds : List PyData) : Str := Txt.join nlS ((Str.empty ++ PySem.Str.ofString "row " ++ num (ds.length : Nat)) :: ds.map txt)
def spTextsOf (K : PySem.W.Frag) : Sp := fun vs H Q _ => ∃ (a : Addr) (ws : List V) (ds : List PyData) (ks : List (Str × Int)), vs = [.ref a] ∧ SqT K H a ws ∧ DpAll K H ws ds ∧ OkR ks ds ∧ ∀ (q : Addr) (H' : Hp), Same H H' → H q = none → H' q = some (.lst ((ds.map txt).map V.str)) → Q (.ref q) H'
structure TxtTO (K : PySem.W.Frag) (mg : Str → Option Value) (fP fX : Addr) : Prop where
  len : mg "len" = none
  gP : mg "all_pieces" = some (.ref fP)
  kP : PySem.W.keepIn K (.ref fP) = true
  gX : mg "all_texts" = some (.ref fX)
  kX : PySem.W.keepIn K (.ref fX) = true
def spRStr (K : PySem.W.Frag) (CB CR : Addr) : Sp := fun vs H Q _ => ∃ (r : Addr) (ks : List (Str × Int)) (os : List Opn) (ds : List PyData), vs = [.ref r] ∧ RowAt K CB CR H r ks os ds ∧ ds.length ≤ 20 ∧ ∀ H', Same H H' → Q (.str (rowT ds)) H'
structure TxtRS (K : PySem.W.Frag) (mg : Str → Option Value) (CR fT : Addr) : Prop where
  cl : Cls K CR
  nT : NoAttr K CR "things"
  len : mg "len" = none
  gT : mg "texts_of" = some (.ref fT)
  kT : PySem.W.keepIn K (.ref fT) = true
theorem num20 : ∀ n ≤ 20, (num ((n : Nat) : Int)).length ≤ 8 := by decide +kernel
theorem log20 : ∀ n ≤ 20, (((n : Nat) : Int)).natAbs.log2 < 1920 := by decide +kernel
theorem sum_leS {l : List Str} {c : Nat} (h : ∀ x ∈ l, x.length ≤ c) : (l.map (·.length)).sum ≤ c * l.length := by
  induction l with
  | nil => simp
  | cons x l ih =>
    have h1 := h x (List.mem_cons_self ..)
    have h2 := ih fun y hy => h y (List.mem_cons_of_mem _ hy)
    rw [List.map_cons, List.sum_cons, List.length_cons, Nat.mul_succ]
    omega
section
variable {P : Program} {w : World} {K : PySem.W.Frag} {mg : Str → Option Value} {base : Heap}
theorem scTextsOf : FnScope ["things"] ["things"] (defScope sTextsOf) := ⟨rfl, rfl, rfl, by decide +kernel, rfl, by decide +kernel, by decide +kernel⟩
theorem ok_textsOf {f fP fX : Addr} {fd dP dX : FuncData} (F : Fun K "texts_of" "texts_of" sTextsOf f fd) (T : TxtTO K mg fP fX) (GP : FnOk P w K mg base CX0 1 fP dP ["things"] (spPieces K)) (bP : Binds K dP ["things"] []) (GX : FnOk P w K mg base CX0 1 fX dX ["pieces"] (spTexts K)) (bX : Binds K dX ["pieces"] []) : FnOk P w K mg base CX0 2 f fd ["things"] (spTextsOf K) := by
  refine F.ok scTextsOf (fun vs H Q E h => ?_) (fun cdv A outer s H vs Q E hr h => ?_)
  · obtain ⟨_, _, _, _, rfl, _⟩ := h
    rfl
  · obtain ⟨a, ws, ds, ks, rfl, ha, hd, ok, k⟩ := h
    refine ⟨_, pss_one (ps_ret (pe_slice sl_list (pe_call GX hr rfl T.gX T.kX bX .nil pass0 (pa_cons (pe_call GP hr rfl T.gP T.kP bP .nil pass0 (pa_cons (pv 0) pa_nil)) pa_nil)) po_none (po_some (pe_callB call_len_seq (by rfl) T.len PySem.boot_len (pa_cons (pv 0) pa_nil))))), ?_⟩
    have wl := dps_len hd
    refine ⟨_, rfl, a, ws, ds, rfl, .inr ha, hd, (fun z hz => drawn_th (ok.each z hz).dr), Nat.le_trans ok.many (by decide), fun q Ps us H1 s1 nq eq dp bf => ?_⟩
    refine ⟨q, us, ds, Ps, rfl, eq, dp, ok.fits bf, fun r H2 s2 nr er => ?_⟩
    refine ⟨_, rfl, a, _, rfl, .inr (kt_same (same_tr s1 s2) _ _ ha), _, rfl, r, _, rfl, SqL.of er, fun p hp => ?_⟩
    refine k p _ (same_new (same_tr s1 s2) hp) (none_same (same_tr s1 s2) hp) ?_
    rw [upd_same]
    congr 2
    unfold cutV
    have e0 := bf.eq
    have len : ds.length ≤ Ps.length := by
      have := congrArg List.length e0
      rw [List.length_append] at this
      omega
    rw [HT.sIx_none, HT.sIx_nat, List.length_map, List.length_map, Nat.min_eq_left (by omega), List.drop_zero, Nat.sub_zero, wl]
    conv => lhs; rw [e0]
    rw [List.map_append, List.map_append, List.take_left' (by simp)]
theorem scRStr : FnScope ["self"] ["self"] (defScope sRStr) := ⟨rfl, rfl, rfl, by decide +kernel, rfl, by decide +kernel, by decide +kernel⟩
theorem ok_rStr {f CB CR fT : Addr} {fd dT : FuncData} (F : Fun K "__str__" "Row.__str__" sRStr f fd) (T : TxtRS K mg CR fT) (GT : FnOk P w K mg base CX0 2 fT dT ["things"] (spTextsOf K)) (bT : Binds K dT ["things"] []) : FnOk P w K mg base CX0 3 f fd ["self"] (spRStr K CB CR) := by
  refine F.ok scRStr (fun vs H Q E h => ?_) (fun cdv A outer s H vs Q E hr h => ?_)
  · obtain ⟨_, _, _, _, rfl, _⟩ := h
    rfl
  · obtain ⟨r, ks, os, ds, rfl, R, l20, k⟩ := h
    obtain ⟨dx, b, t, n, p, ws, ps, pds, ys, h1, h2, h3, h4, h5, h6, h7, h8, h9⟩ := R.ex
    refine ⟨_, pss_one (ps_ret (pe_m1 PySem.F.slot_str_join PySem.F.type_str_join mt_join pe_str (pe_lst (pa_cons (pe_joined (PJ.cons pe_str (PJ.cons (pe_fmt (pe_callB call_len_seq (by rfl) T.len PySem.boot_len (pa_cons (pe_fld (pv 0) rfl) pa_nil))) PJ.nil)))
      (pa_star (pe_call GT hr rfl T.gT T.kT bT .nil pass0 (pa_cons (pe_fld (pv 0) rfl) pa_nil)) pa_nil))))), ?_⟩
    have line : sizeLine = 16777216 := sizeLine_eq
    have wl := dps_len h4
    have e0 : Str.empty.length = 0 := by decide +kernel
    have e1 : (PySem.Str.ofString "row ").length = 4 := by decide +kernel
    have n8 := num20 ds.length l20
    refine ⟨⟨_, rfl⟩, _, rfl, (by rw [strLen_append]; omega), ?_⟩
    have lg := log20 ds.length l20
    refine ⟨_, rfl, r, CR, dx, _, _, rfl, h1, T.cl, T.nT, rfl, t, ws, rfl, .inr h3, .inr ⟨(ws.length : Nat), rfl, by rw [wl]; exact lg, _, rfl, ?_⟩⟩
    have numE : PySem.Str.ofString (toString ((ws.length : Nat) : Int)) = num (ds.length : Nat) := by rw [wl]; rfl
    rw [numE]
    refine ⟨by rw [strLen_append, strLen_append]; omega, ?_⟩
    refine ⟨_, rfl, r, CR, dx, _, _, rfl, h1, T.cl, T.nT, rfl, t, ws, ds, ks, rfl, h3, h4, R.ok, fun q H1 s1 nq eq => ?_⟩
    refine ⟨q, _, rfl, .inr (SqL.of eq), (by simp only [List.length_append, List.length_map, List.length_cons, List.length_nil]; omega), fun l hl => ?_⟩
    have b1 : ∀ y ∈ ((Str.empty ++ PySem.Str.ofString "row " ++ num (ds.length : Nat)) :: ds.map txt), y.length ≤ 50000 := fun y hy => by
      rcases List.mem_cons.mp hy with rfl | hy
      · rw [strLen_append, strLen_append]
        omega
      · obtain ⟨d, hd, rfl⟩ := List.mem_map.mp hy
        have := drawn_txt _ d (Nat.le_refl _) (R.ok.each d hd).dr
        have := R.ok.szs hd
        omega
    have b2 := sum_leS b1
    have b3 : (PySem.Str.ofString "\n").length = 1 := by decide +kernel
    refine ⟨_, l, ((Str.empty ++ PySem.Str.ofString "row " ++ num (ds.length : Nat)) :: ds.map txt), rfl, rfl, .inl (SqL.of ?_), ?_, k _ (same_new s1 hl)⟩
    · rw [upd_same]
      simp
    · rw [List.length_cons, List.length_map] at b2 ⊢
      rw [b3]
      omega
/-- two rows that are equal -/
def AlikeR (K : PySem.W.Frag) (CB CR : Addr) (a b : Addr) (H : Hp) : Prop := ∃ ks os ds, RowAt K CB CR H a ks os ds ∧ RowAt K CB CR H b ks os ds ∧ ds.length ≤ 20
structure TxtRE (K : PySem.W.Frag) (mg : Str → Option Value) (CB CR fE fS : Addr) : Prop where
  cl : Cls K CR
  nB : NoAttr K CR "book"
  isi : mg "isinstance" = none
  str : mg "str" = none
  gR : mg "Row" = some (.ref CR)
  ha : PySem.W.findIn K (.ref CR) "__class__" = some (some (.builtin "object.__class__"))
  hn : PySem.W.specialIn K (.builtin "object.__class__") "__get__" = some (some (.builtin "getset_descriptor.__get__"))
  ht : PySem.W.takesIn K (.builtin "object.__class__") = some true
  hm : PySem.W.mroIn K CR (.type "object") = some true
  aE : PySem.W.findIn K (.ref CB) "__eq__" = some (some (.ref fE))
  iE : PySem.W.isFn K (.ref fE) = true
  aS : PySem.W.findIn K (.ref CR) "__str__" = some (some (.ref fS))
  iS : PySem.W.isFn K (.ref fS) = true
end
end K09

set_option Elab.async false
set_option linter.all false
set_option maxRecDepth 100000
set_option maxHeartbeats 4000000
/-! == of rows. -/
namespace K09
open PySem PySem.Spec PyProof.Rows L2 Mine TL SkE StX
section
variable {P : Program} {w : World} {K : PySem.W.Frag} {mg : Str → Option Value} {base : Heap}
theorem scREq : FnScope ["self", "other"] ["self", "other"] (defScope sREq) := ⟨rfl, rfl, rfl, by decide +kernel, rfl, by decide +kernel, by decide +kernel⟩
theorem ok_rEq {f CB CR fE fS : Addr} {fd dE dS : FuncData} (F : Fun K "__eq__" "Row.__eq__" sREq f fd) (T : TxtRE K mg CB CR fE fS) (GE : FnOk P w K mg base CX0 1 fE dE ["self", "other"] (spEq (Alike K CB))) (bE : Binds K dE ["self", "other"] [])
    (GS : FnOk P w K mg base CX0 3 fS dS ["self"] (spRStr K CB CR)) (bS : Binds K dS ["self"] []) : FnOk P w K mg base CX0 6 f fd ["self", "other"] (spEq (AlikeR K CB CR)) := by
  refine F.ok scREq (fun vs H Q E h => ?_) (fun cdv A outer s H vs Q E hr h => ?_)
  · obtain ⟨_, _, rfl, _⟩ := h
    rfl
  · obtain ⟨a, b, rfl, ⟨ks, os, ds, A1, B1, l20⟩, k⟩ := h
    have hr1 : Room 1 _ := hr.mono (by decide)
    obtain ⟨dx, b1, t1, n1, p1, ws1, ps1, pds1, ys1, h1, h2, h3, _⟩ := A1.ex
    obtain ⟨dy, b2, t2, n2, p2, ws2, ps2, pds2, ys2, g1, g2, g3, _⟩ := B1.ex
    obtain ⟨dxb, kk, oo, pp, as, hb1, _⟩ := h2.ex
    obtain ⟨dyb, kk', oo', pp', as', hb2, _⟩ := g2.ex
    refine ⟨_, pss_one (ps_ret (pe_and (pe_callB call_isi (by rfl) T.isi (by decide +kernel) (pa_cons (pv 1) (pa_cons (pe_glob (v := .ref CR) rfl T.gR rfl) pa_nil)))
      (pe_and (pe_cmpR (op_eqG (rcG_ins GE T.aE T.iE bE pass0) hr1) (pe_fld (pv 0) rfl) (pe_fld (pv 1) rfl) (nomark _))
      (pe_one (pe_cmpR op_eq (pe_callTy (call_strOwn GS hr T.aS T.iS bS) (by rfl) T.str (by decide +kernel) (pa_cons (pv 0) pa_nil)) (pe_callTy (call_strOwn GS hr T.aS T.iS bS) (by rfl) T.str (by decide +kernel) (pa_cons (pv 1) pa_nil)) (nomark _)))))), ?_⟩
    refine ⟨_, rfl, _, _, _, _, true, rfl, .own CR, .base (.ins g1 T.cl T.ha T.hn T.ht T.hm), kit_me, _, rfl, ite2 (fun _ => ?_) (fun z => absurd rfl z)⟩
    refine ⟨_, rfl, a, CR, dx, _, _, rfl, h1, T.cl, T.nB, rfl, _, rfl, b, CR, dy, _, _, rfl, g1, T.cl, T.nB, rfl, ⟨b1, b2, _, _, _, _, rfl, rfl, hb1, hb2, ks, os, h2, g2⟩, fun H1 s1 => ⟨_, rfl, ite2 (fun _ => ?_) (fun z => absurd rfl z)⟩⟩
    refine ⟨_, rfl, a, dx, _, rfl, s1 _ _ h1, a, ks, os, ds, rfl, A1.same s1, l20, fun H2 s2 => ⟨_, rfl, ?_⟩⟩
    have s12 := same_tr s1 s2
    refine ⟨_, rfl, b, dy, _, rfl, s12 _ _ g1, b, ks, os, ds, rfl, B1.same s12, l20, fun H3 s3 => ⟨_, rfl, rfl, ?_⟩⟩
    rw [decide_eq_true rfl]
    exact k _ (same_tr s12 s3)
end
end K09

set_option Elab.async false
set_option linter.all false
set_option maxRecDepth 100000
set_option maxHeartbeats 4000000
/-! Rows with other things in the places of names. -/
namespace K09
open PySem PySem.Spec PyProof.Rows L2 Mine TL SkE StX
abbrev sRExch : Stmt := inClass (top 28) 11
abbrev sRRepl : Stmt := inClass (top 28) 9
abbrev sRRen : Stmt := inClass (top 28) 10
theorem small4 {d : PyData} (h : drawn d = true) (s : sz d ≤ 4000) : Small d := by
  have := drawn_txt _ d (Nat.le_refl _) h
  exact ⟨drawn_thing _ d (Nat.le_refl _) h, s, by omega⟩
theorem put_fit {ks : List (Str × Int)} {f : Str → PyData} (hf : ∀ x, fitK ks (f x) = true) : ∀ (n : Nat) (d : PyData), sz d ≤ n → drawn d = true → fitK ks d = true → fitK ks (put f d) = true
  | 0, d, hn, _, _ => by have := sz_pos d; omega
  | n + 1, d, hn, h, g => by
    rcases drawn_cases h with ⟨c, rfl, hc⟩ | ⟨c, ps, rfl, ne, hc, hp⟩
    · rw [put_str]
      exact hf c
    · obtain ⟨g1, g2⟩ := fitK_tup.mp g
      rw [put_tup, fitK_tup]
      refine ⟨by rw [List.length_map]; exact g1, fun q hq => ?_⟩
      obtain ⟨p, hp1, rfl⟩ := List.mem_map.mp hq
      exact put_fit hf n p (by have : sz p + 1 ≤ sz (.tuple (.str c :: ps)) := kid_sz (show p ∈ kids (.tuple (.str c :: ps)) from hp1); omega) (hp p hp1) (g2 p hp1)
/-- what is put in for a word or name -/
structure Puts (ks : List (Str × Int)) (k : Nat) (g : Str → PyData) : Prop where
  th : ∀ x, thing (g x) = true
  fit : ∀ x, fitK ks (g x) = true
  dr : ∀ x ∈ LV, drawn (g x) = true
  sz : ∀ x ∈ LV, Mine.sz (g x) ≤ k
theorem OkR.put {ks : List (Str × Int)} {ds : List PyData} {k : Nat} {g : Str → PyData} (h : OkR ks ds) (p : Puts ks k g) (k1 : 1 ≤ k) (m : k * (ds.flatMap lot).length ≤ 4000) : OkR ks (ds.map (put g)) ∧ ((ds.map (put g)).flatMap lot).length ≤ k * (ds.flatMap lot).length := by
  have len : ((ds.map (Mine.put g)).flatMap lot).length ≤ k * (ds.flatMap lot).length := by
    rw [List.length_flatMap, List.length_flatMap, List.map_map]
    have s1 := sums (ps := ds) (f := fun d => Mine.sz (Mine.put g d)) (g := fun d => k * Mine.sz d) fun d hd => put_sz k1 p.sz _ d (Nat.le_refl _) (h.each d hd).dr
    rw [sum_mul] at s1
    exact s1
  refine ⟨⟨fun d hd => ?_, by omega⟩, len⟩
  obtain ⟨d', hd', rfl⟩ := List.mem_map.mp hd
  have o := h.each d' hd'
  exact ⟨put_drawn p.dr _ d' (Nat.le_refl _) o.dr, put_fit p.fit _ d' (Nat.le_refl _) o.dr o.fit⟩
def spRExch (K : PySem.W.Frag) (CB CR : Addr) : Sp := fun vs H Q _ => ∃ (r o : Addr) (kvs : List (Key × V)) (g : Str → PyData) (k : Nat) (ks : List (Str × Int)) (os : List Opn) (ds : List PyData), vs = [.ref r, .ref o] ∧ RowAt K CB CR H r ks os ds ∧ H o = some (.dK kvs) ∧ Tells K H kvs g ∧ Puts ks k g ∧ 1 ≤ k ∧ k * (ds.flatMap lot).length ≤ 4000 ∧
  ∀ (q : Addr) (H' : Hp), Same H H' → H q = none → RowAt K CB CR H' q ks os (ds.map (put g)) → Q (.ref q) H'
structure TxtRX (K : PySem.W.Frag) (mg : Str → Option Value) (CR fX : Addr) : Prop where
  cl : Cls K CR
  nB : NoAttr K CR "book"
  nT : NoAttr K CR "things"
  tuple : mg "tuple" = none
  gR : mg "Row" = some (.ref CR)
  gX : mg "exchanged" = some (.ref fX)
  kX : PySem.W.keepIn K (.ref fX) = true
section
variable {P : Program} {w : World} {K : PySem.W.Frag} {mg : Str → Option Value} {base : Heap}
theorem made_row {CB CR x dx b t : Addr} {ks : List (Str × Int)} {os : List Opn} {ws : List V} {ds : List PyData} {H : Hp} {R : Hp → Prop} {E : XK} (hb : BkAt K CB H b ks os) (ht : SqT K H t ws) (hd : DpAll K H ws ds) (ok : OkR ks ds) (nx : H x = none) (ndx : H dx = none) (ne : dx ≠ x)
    (k : ∀ H', Same H H' → RowAt K CB CR H' x ks os ds → R H') : spRInit K CB CR (.ref x :: ([.ref b, .ref t] ++ [])) (upd (upd H dx (.own x)) x (.ins CR dx [])) (fun v H2 => v = .non ∧ R H2) E := by
  have s1 : Same H (upd (upd H dx (.own x)) x (.ins CR dx [])) := fun b o e => (upd_ne (ne_of_none e nx)).trans ((upd_ne (ne_of_none e ndx)).trans e)
  refine ⟨x, dx, b, t, ks, os, ws, ds, rfl, upd_same, hb.same s1, kt_same s1 _ _ ht, dps_same s1 _ _ hd, ok, fun n p ys ps pds H' off hx hn hp dp th asc => ⟨rfl, ?_⟩⟩
  have s2 : Same H H' := fun c o e => off c o (ne_of_none e nx) (s1 _ _ e)
  exact k H' s2 ⟨⟨dx, b, t, n, p, ws, ps, pds, ys, hx, hb.same s2, kt_same s2 _ _ ht, dps_same s2 _ _ hd, hn, hp, dp, th, asc⟩, ok⟩
theorem scRExch : FnScope ["self", "others", "thing"] ["self", "others"] (defScope sRExch) := ⟨rfl, rfl, rfl, by decide +kernel, rfl, by decide +kernel, by decide +kernel⟩
theorem ok_rExch {f CB CR fX fI : Addr} {fd dX dI : FuncData} (F : Fun K "_exchanged" "Row._exchanged" sRExch f fd) (T : TxtRX K mg CR fX) (GX : FnOk P w K mg base CX0 2 fX dX ["thing", "others"] (spExch K)) (bX : Binds K dX ["thing", "others"] [])
    (M : Mk K CR fI) (GI : FnOk P w K mg base CX0 4 fI dI ["self", "book", "things"] (spRInit K CB CR)) (bI : Binds K dI ["self", "book", "things"] []) : FnOk P w K mg base CX0 6 f fd ["self", "others"] (spRExch K CB CR) := by
  refine F.ok scRExch (fun vs H Q E h => ?_) (fun cdv A outer s H vs Q E hr h => ?_)
  · obtain ⟨_, _, _, _, _, _, _, _, rfl, _⟩ := h
    rfl
  · obtain ⟨r, o, kvs, g, k', ks, os, ds, rfl, R, ho, tl, pu, k1, km, k⟩ := h
    obtain ⟨dx, b, t, n, p, ws, ps, pds, ys, h1, h2, h3, h4, h5, h6, h7, h8, h9⟩ := R.ex
    have hr2 : Room 2 _ := hr.mono (by decide)
    refine ⟨_, pss_one (ps_ret (pe_make M GI hr rfl T.gR bI .nil pass0 (pa_cons (pe_fld (pv 0) rfl) (pa_cons (pe_callTy call_tuple_of (by rfl) T.tuple (by decide +kernel) (pa_cons (pe_lc (own := [("thing", 2)]) (g := gName 2) (tt := tYes) rfl scRExch.nd (pi_tup (pe_fld (pv 0) rfl))
        (blkOk_by (own := [("thing", 2)]) (N := ["self", "others", "thing"]) (sc := defScope sRExch) (by decide +kernel))
        (fun _ _ _ _ _ => pg_name (i := 2) scRExch.nd rfl (Or.inl rfl)) (fun _ _ _ _ _ => pts_nil) (fun _ _ _ _ _ => pe_call GX hr2 rfl T.gX T.kX bX .nil pass0 (pa_cons (pv 2) (pa_cons (pv 1) pa_nil)))) pa_nil)) pa_nil)))), ?_⟩
    have line : sizeLine = 16777216 := sizeLine_eq
    have wl := dps_len h4
    have many := R.ok.many
    have dl : ds.length ≤ (ds.flatMap lot).length := by
      have := len_sz ds
      rw [List.length_flatMap]
      exact this
    obtain ⟨okP, _⟩ := R.ok.put pu k1 km
    refine ⟨_, rfl, r, CR, dx, _, _, rfl, h1, T.cl, T.nB, rfl, _, rfl, r, CR, dx, _, _, rfl, h1, T.cl, T.nT, rfl, t, rfl, ⟨_, h3⟩, fun D hD => ?_⟩
    have nD : H D = none := hD
    refine lc_tup (K := K) (a := t) (xs := ws) (fun i H' => ∃ zs, H' D = some (.lst zs) ∧ DpAll K H' zs ((ds.take i).map (put g)) ∧ Same H H') ⟨[], upd_same, .nil, same_new same_rfl hD⟩ (fun i H' _ ⟨_, _, _, z⟩ => kt_same z _ _ h3) ?_ ?_
    · rintro i y H' hi ⟨zs, eD, dz, sm⟩
      have il : i < ws.length := (List.getElem?_eq_some_iff.mp hi).1
      have hx : ds[i]? = some ds[i] := List.getElem?_eq_getElem (by omega)
      obtain ⟨y', hy', dy⟩ := dps_at h4 hx
      rw [hi] at hy'
      cases hy'
      generalize ds[i] = d at hx dy
      have md := List.mem_of_getElem? hx
      have od := R.ok.each d md
      have tk : ds.take (i + 1) = ds.take i ++ [d] := by rw [List.take_add_one, hx]; rfl
      have zl := dps_len dz
      rw [List.length_map, List.length_take] at zl
      refine ⟨rfl, ?_⟩
      refine yes_if ?_
      have tl' : Tells K H' kvs g := fun x => (tl x).elim .inl fun ⟨v, e1, e2⟩ => .inr ⟨v, e1, dp_same sm _ _ e2⟩
      refine ⟨_, rfl, _, rfl, y, d, o, kvs, g, rfl, dp_same sm d y dy, small4 od.dr (R.ok.szs md), sm _ _ ho, tl', pu.th, fun z H2 s2 dz2 => ?_⟩
      refine ⟨zs, s2 _ _ eD, by omega, zs ++ [z], upd_same, ?_, fun c u e => (upd_ne (ne_of_none e nD)).trans (s2 _ _ (sm _ _ e))⟩
      have kt2 : KT K H2 (upd H2 D (.lst (zs ++ [z]))) := kt_lst (s2 _ _ eD)
      have pth : ∀ d ∈ ds, thing (put g d) = true := fun d hd => put_thing pu.th _ d (Nat.le_refl _) (drawn_th (R.ok.each d hd).dr)
      rw [tk, List.map_append]
      refine dps_app (ths_kt ((kt_same s2).tr kt2) _ _ (thingAll_iff.mpr fun q hq => ?_) dz) (.cons (th_kt kt2 _ z (pth d md) dz2) .nil)
      obtain ⟨d', hd', rfl⟩ := List.mem_map.mp hq
      exact pth d' (List.mem_of_mem_take hd')
    · rintro H1 ⟨zs, eD, dz, sm⟩
      rw [wl, List.take_of_length_le (Nat.le_refl _)] at dz
      refine ⟨D, zs, rfl, .inl ⟨SqL.of eD, fun a ha => ?_⟩⟩
      have s2 : Same H (upd H1 a (.tup zs)) := same_new sm ha
      refine fun x dx' nx ndx ne => made_row (E := E0) (h2.same s2) (SqT.of upd_same) (dps_same (same_new same_rfl ha) _ _ dz) okP nx ndx ne fun H3 s3 R3 => ?_
      exact k x H3 (same_tr s2 s3) (none_same s2 nx) R3
end
end K09

set_option Elab.async false
set_option linter.all false
set_option maxRecDepth 100000
set_option maxHeartbeats 4000000
/-! Row.replaced, Row.renamed. -/
namespace K09
open PySem PySem.Spec PyProof.Rows L2 Mine TL SkE StX
theorem puts_subst {ks : List (Str × Int)} {n : Str} {e : PyData} {k : Nat} (k1 : 1 ≤ k) (d : drawn e = true) (f : fitK ks e = true) (s : Mine.sz e ≤ k) : Puts ks k (subst n e) := by
  refine ⟨subst_thing (drawn_th d), fun x => ?_, fun x hx => ?_, fun x hx => ?_⟩
  · unfold subst
    split
    · exact f
    · exact fitK_str
  · unfold subst
    split
    · exact d
    · exact drawn_str hx
  · unfold subst
    split
    · exact s
    · rw [sz_str]
      exact k1
/-- other names -/
def renS (kvs : List (Key × V)) (x : Str) : PyData := match valV (mergeK [] kvs) (.inr x) with
  | some (.str y) => .str y
  | _ => .str x
abbrev kvS (p : Str × Str) : Key × V := (.inr p.1, .str p.2)
theorem ren_val {ren : List (Str × Str)} (h : ∀ p ∈ ren, p.2 ∈ LV) (x : Str) : (valV (mergeK [] (ren.map kvS)) (.inr x) = none ∧ renS (ren.map kvS) x = .str x) ∨ ∃ y, y ∈ LV ∧ valV (mergeK [] (ren.map kvS)) (.inr x) = some (.str y) ∧ renS (ren.map kvS) x = .str y := by
  obtain ⟨_, val, _⟩ := merge_all (R := fun k v => ∃ y ∈ LV, v = V.str y) (l := ren.map kvS) (kvs := []) (by simp) (fun k v h => nomatch h) (fun p hp => by
    obtain ⟨q, hq, rfl⟩ := List.mem_map.mp hp
    exact ⟨q.2, h q hq, rfl⟩)
  cases e : valV (mergeK [] (ren.map kvS)) (.inr x) with
  | none => exact .inl ⟨rfl, by unfold renS; rw [e]⟩
  | some v =>
    obtain ⟨y, hy, rfl⟩ := val _ _ e
    exact .inr ⟨y, hy, rfl, by unfold renS; rw [e]⟩
theorem puts_ren {ks : List (Str × Int)} {ren : List (Str × Str)} (h : ∀ p ∈ ren, p.2 ∈ LV) : Puts ks 1 (renS (ren.map kvS)) := by
  have e : ∀ x, ∃ y, renS (ren.map kvS) x = .str y ∧ (x ∈ LV → y ∈ LV) := fun x => by
    rcases ren_val h x with ⟨_, e⟩ | ⟨y, hy, _, e⟩
    · exact ⟨x, e, id⟩
    · exact ⟨y, e, fun _ => hy⟩
  refine ⟨fun x => ?_, fun x => ?_, fun x hx => ?_, fun x hx => ?_⟩ <;> obtain ⟨y, e1, e2⟩ := e x <;> rw [e1]
  · simp [thing]
  · exact fitK_str
  · exact drawn_str (e2 hx)
  · rw [sz_str]
    exact Nat.le_refl _
def spRRepl (K : PySem.W.Frag) (CB CR : Addr) : Sp := fun vs H Q _ => ∃ (r : Addr) (u : V) (n : Str) (e : PyData) (ks : List (Str × Int)) (os : List Opn) (ds : List PyData), vs = [.ref r, .str n, u] ∧ RowAt K CB CR H r ks os ds ∧ Dp K H u e ∧ drawn e = true ∧ fitK ks e = true ∧ sz e ≤ 4 ∧ (ds.flatMap lot).length ≤ 1000 ∧
  ∀ (q : Addr) (H' : Hp), Same H H' → H q = none → RowAt K CB CR H' q ks os (ds.map (put (subst n e))) → Q (.ref q) H'
def spRRen (K : PySem.W.Frag) (CB CR : Addr) : Sp := fun vs H Q _ => ∃ (r t : Addr) (ps : List Addr) (ren : List (Str × Str)) (ks : List (Str × Int)) (os : List Opn) (ds : List PyData), vs = [.ref r, .ref t] ∧ RowAt K CB CR H r ks os ds ∧ TupN K H t (ps.map V.ref) ∧ Paired (fun p kv => SqT K H p [kV kv.1, kv.2]) ps (ren.map kvS) ∧ (∀ p ∈ ren, p.2 ∈ LV) ∧
  ∀ (q : Addr) (H' : Hp), Same H H' → H q = none → RowAt K CB CR H' q ks os (ds.map (put (renS (ren.map kvS)))) → Q (.ref q) H'
structure TxtRM (K : PySem.W.Frag) (mg : Str → Option Value) (CR fX : Addr) : Prop where
  cl : Cls K CR
  me : Meth K CR "_exchanged" fX
  dict : mg "dict" = none
section
variable {P : Program} {w : World} {K : PySem.W.Frag} {mg : Str → Option Value} {base : Heap}
theorem scRRepl : FnScope ["self", "name", "thing"] ["self", "name", "thing"] (defScope sRRepl) := ⟨rfl, rfl, rfl, by decide +kernel, rfl, by decide +kernel, by decide +kernel⟩
theorem ok_rRepl {f CB CR fX : Addr} {fd dX : FuncData} (F : Fun K "replaced" "Row.replaced" sRRepl f fd) (T : TxtRM K mg CR fX) (GX : FnOk P w K mg base CX0 6 fX dX ["self", "others"] (spRExch K CB CR)) (bX : Binds K dX ["self", "others"] []) : FnOk P w K mg base CX0 7 f fd ["self", "name", "thing"] (spRRepl K CB CR) := by
  refine F.ok scRRepl (fun vs H Q E h => ?_) (fun cdv A outer s H vs Q E hr h => ?_)
  · obtain ⟨_, _, _, _, _, _, _, rfl, _⟩ := h
    rfl
  · obtain ⟨r, u, n, e, ks, os, ds, rfl, R, he, dr, ft, s4, many, k⟩ := h
    obtain ⟨dx, b, t, n', p, ws, ps, pds, ys, h1, _⟩ := id R.ex
    refine ⟨_, pss_one (ps_ret (pe_meth (pv 0) T.cl T.me GX hr bX .nil pass0 (pa_cons (pe_disp (pps_cons (pv 1) (pv 2) pps_nil) (by rfl) (by rfl) (by intro z; cases z) (by decide)) pa_nil))), ?_⟩
    refine ⟨_, rfl, r, dx, _, rfl, h1, rfl, fun o ho => ⟨_, rfl, _, rfl, upd_same, [(Sum.inr n, u)], rfl, (by show 1 ≤ 15; decide), ?_⟩⟩
    rw [upd_upd]
    have st : Same H (upd H o (.dK (mergeK [] [(Sum.inr n, u)]))) := same_new same_rfl ho
    have val : ∀ x : Str, valV (mergeK [] [((Sum.inr n : Key), u)]) (Sum.inr x) = if x = n then some u else none := fun x => by
      have e1 : mergeK [] [((Sum.inr n : Key), u)] = putK [] (Sum.inr n) u := rfl
      rw [e1, valV_put]
      by_cases h : x = n
      · rw [if_pos h, if_pos (congrArg _ h)]
      · rw [if_neg h, if_neg fun z => h (Sum.inr.inj z)]
        rfl
    refine ⟨r, o, _, subst n e, 4, ks, os, ds, rfl, R.same st, upd_same, fun x => ?_, puts_subst (by omega) dr ft s4, by omega, by omega, fun q H' s' nq R' => k q H' (same_tr st s') (none_same st nq) R'⟩
    rw [val]
    unfold subst
    by_cases h : x = n
    · rw [if_pos h, if_pos h]
      exact .inr ⟨u, rfl, dp_same st _ _ he⟩
    · rw [if_neg h, if_neg h]
      exact .inl ⟨rfl, rfl⟩
theorem scRRen : FnScope ["self", "pairs"] ["self", "pairs"] (defScope sRRen) := ⟨rfl, rfl, rfl, by decide +kernel, rfl, by decide +kernel, by decide +kernel⟩
theorem ok_rRen {f CB CR fX : Addr} {fd dX : FuncData} (F : Fun K "renamed" "Row.renamed" sRRen f fd) (T : TxtRM K mg CR fX) (GX : FnOk P w K mg base CX0 6 fX dX ["self", "others"] (spRExch K CB CR)) (bX : Binds K dX ["self", "others"] []) : FnOk P w K mg base CX0 7 f fd ["self", "pairs"] (spRRen K CB CR) := by
  refine F.ok scRRen (fun vs H Q E h => ?_) (fun cdv A outer s H vs Q E hr h => ?_)
  · obtain ⟨_, _, _, _, _, _, _, rfl, _⟩ := h
    rfl
  · obtain ⟨r, t, ps, ren, ks, os, ds, rfl, R, ht, hp, rl, k⟩ := h
    obtain ⟨dx, b, t', n', p, ws, ps', pds, ys, h1, _⟩ := id R.ex
    refine ⟨_, pss_one (ps_ret (pe_meth (pv 0) T.cl T.me GX hr bX .nil pass0 (pa_cons (pe_callTy (call_dictPT rfl) (by rfl) T.dict (by decide +kernel) (pa_cons (pv 1) pa_nil)) pa_nil))), ?_⟩
    refine ⟨_, rfl, r, dx, _, rfl, h1, rfl, _, rfl, t, ps, _, rfl, ht, hp, fun o ho => ?_⟩
    have st : Same H (upd H o (.dK (mergeK [] (ren.map kvS)))) := same_new same_rfl ho
    refine ⟨r, o, _, renS (ren.map kvS), 1, ks, os, ds, rfl, R.same st, upd_same, fun x => ?_, puts_ren rl, Nat.le_refl _, by have := R.ok.many; omega, fun q H' s' nq R' => k q H' (same_tr st s') (none_same st nq) R'⟩
    rcases ren_val rl x with ⟨e1, e2⟩ | ⟨y, _, e1, e2⟩
    · exact .inl ⟨e1, e2⟩
    · rw [e2]
      exact .inr ⟨_, e1, .str y⟩
end
end K09

set_option Elab.async false
set_option linter.all false
set_option maxRecDepth 100000
set_option maxHeartbeats 4000000
/-! Drawn things for a row. -/
namespace K09
open PySem PySem.Spec PyProof.Rows L2 Mine TL SkE StX
abbrev sThings : Stmt := top 53
abbrev nThings : List Str := ["_law_deck_here", "_law_makes", "_law_count", "_law_top", "_law_leaves", "_law_found", "_law_k"]
abbrev pT : List Str := ["_law_deck_here", "_law_makes", "_law_leaves", "_law_top", "_law_deep"]
abbrev La : List Str := [PySem.Str.ofString "a", PySem.Str.ofString "b", PySem.Str.ofString "K", PySem.Str.ofString "L"]
abbrev Lb : List Str := [PySem.Str.ofString "a", PySem.Str.ofString "K"]
abbrev Lc : List Str := [PySem.Str.ofString "half", PySem.Str.ofString "K", PySem.Str.ofString "K1", PySem.Str.ofString "Zz", PySem.Str.ofString "N"]
theorem las : ∀ x ∈ La, x ∈ LV := by decide +kernel
theorem lbs : ∀ x ∈ Lb, x ∈ LV := by decide +kernel
theorem lcs : ∀ x ∈ Lc, x ∈ LV := by decide +kernel
theorem castT {K : PySem.W.Frag} {n m : Nat} {i j : Int} {a b c : Addr} {H : Hp} {Q : VK} {E : XK} (h : spThing K m [.ref a, .ref b, .ref c, .int (n : Int), .int (m : Int)] H Q E) (e : i = (n : Int)) (e2 : j = (m : Int)) : spThing K m ([.ref a, .ref b, .ref c, .int i, .int j] ++ []) H Q E := by
  rw [e, e2]
  exact h
structure Has (K : PySem.W.Frag) (mg : Str → Option Value) (n : Str) (f : Addr) : Prop where
  g : mg n = some (.ref f)
  k : PySem.W.keepIn K (.ref f) = true
structure TxtTs (K : PySem.W.Frag) (mg : Str → Option Value) (fD fP fH : Addr) : Prop where
  range : mg "range" = none
  d : Has K mg "_law_draw" fD
  p : Has K mg "_law_pick" fP
  h : Has K mg "_law_thing" fH
def spThings (K : PySem.W.Frag) : Sp := fun vs H Q _ => ∃ (dk dl mk : Addr) (t : Int) (ms : List V) (ks : List (Str × Int)), vs = [.ref dk, .ref mk, .int 6, .int 10] ∧ DeckAt H dk dl t ∧ MakesAt H mk ms ks ∧ 0 ≤ t ∧ t ≤ 40000 ∧
  ∀ (a : Addr) (ws : List V) (ds : List PyData) (t' : Int) (H' : Hp), DeckAt H' dk dl t' → t ≤ t' → t' ≤ t + 500 → Keep dk dl H H' → SqT K H' a ws → DpAll K H' ws ds → OkR ks ds → ds.length ≤ 6 → (ds.flatMap lot).length ≤ 60 → (∀ d ∈ ds, PyData.depth d ≤ 9) → Q (.ref a) H'
section
variable {P : Program} {w : World} {K : PySem.W.Frag} {mg : Str → Option Value} {base : Heap}
theorem scThings : FnScope nThings ["_law_deck_here", "_law_makes", "_law_count", "_law_top"] (defScope sThings) := ⟨rfl, rfl, rfl, by decide +kernel, rfl, by decide +kernel, by decide +kernel⟩
theorem ok_things {f fD fP fH : Addr} {fd dD dP dH : FuncData} (F : Fun K "_law_things" "_law_things" sThings f fd) (T : TxtTs K mg fD fP fH) (GD : FnOk P w K mg base CX0 1 fD dD ["_law_deck_here", "_law_below"] spDraw) (bD : Binds K dD ["_law_deck_here", "_law_below"] [])
    (GP : FnOk P w K mg base CX0 2 fP dP ["_law_deck_here", "_law_some"] spPick) (bP : Binds K dP ["_law_deck_here", "_law_some"] []) (GH : FnOk P w K mg base CX0 12 fH dH pT (spThing K 9)) (bH : Binds K dH pT []) :
    FnOk P w K mg base CX0 13 f fd ["_law_deck_here", "_law_makes", "_law_count", "_law_top"] (spThings K) := by
  refine F.ok scThings (fun vs H Q E h => ?_) (fun cdv A outer s H vs Q E hr h => ?_)
  · obtain ⟨_, _, _, _, _, _, rfl, _⟩ := h
    rfl
  · obtain ⟨dk, dl, mk, t, ms, ks, rfl, hD, M, t0, t1, k⟩ := h
    have hr1 : Room 1 _ := hr.mono (by decide)
    have hr2 : Room 2 _ := hr.mono (by decide)
    have line : sizeLine = 16777216 := sizeLine_eq
    refine ⟨_, pss_cons (ps_set (i := 4) scThings.nd rfl (.inl rfl) (pe_call GP hr2 rfl T.p.g T.p.k bP .nil pass0 (pa_cons (pv 0) (pa_cons (pe_lst (pa_cons (pe_lst (pa_cons pe_str (pa_cons pe_str (pa_cons pe_str (pa_cons pe_str pa_nil))))) (pa_cons (pe_lst (pa_cons pe_str (pa_cons pe_str pa_nil))) (pa_cons (pe_lst (pa_cons pe_str (pa_cons pe_str (pa_cons pe_str (pa_cons pe_str (pa_cons pe_str pa_nil)))))) pa_nil)))) pa_nil))))
      (pss_cons (ps_set (i := 5) scThings.nd rfl (.inl rfl) (pe_tup pa_nil))
      (pss_cons (ps_for PassesOwn.never rfl (pi_range1 rfl T.range (pa_cons (pe_call GD hr1 rfl T.d.g T.d.k bD .nil pass0 (pa_cons (pv 0) (pa_cons (pe_op op_add (pv 2) pe_int) pa_nil))) pa_nil)) (pg_name (i := 6) scThings.nd rfl (.inl rfl))
        (pss_one (ps_set (i := 5) scThings.nd rfl (.inl rfl) (pe_op op_catA (pv 5) (pe_tup (pa_cons (pe_call GH hr rfl T.h.g T.h.k bH .nil pass0 (pa_cons (pv 0) (pa_cons (pv 1) (pa_cons (pv 4) (pa_cons (pe_op op_add pe_int (pe_call GD hr1 rfl T.d.g T.d.k bD .nil pass0 (pa_cons (pv 0) (pa_cons (pv 3) pa_nil)))) (pa_cons pe_int pa_nil)))))) pa_nil))))))
      (pss_one (ps_ret (pv 5))))), ?_⟩
    refine ⟨_, rfl, (by show 4 ≤ sizeLine; omega), fun a1 h1 => ⟨(by show 2 ≤ sizeLine; omega), fun a2 h2 => ⟨(by show 5 ≤ sizeLine; omega), fun a3 h3 => ⟨(by show 3 ≤ sizeLine; omega), fun a4 h4 => ?_⟩⟩⟩⟩
    have E1 : upd H a1 (.lst (La.map V.str)) a1 = some (.lst (La.map V.str)) := upd_same
    have E2 := (upd_ne (o := .lst (Lb.map V.str)) (ne_of_none E1 h2)).trans E1
    have F2 : upd (upd H a1 (.lst (La.map V.str))) a2 (.lst (Lb.map V.str)) a2 = some (.lst (Lb.map V.str)) := upd_same
    have E3 := (upd_ne (o := .lst (Lc.map V.str)) (ne_of_none E2 h3)).trans E2
    have F3 := (upd_ne (o := .lst (Lc.map V.str)) (ne_of_none F2 h3)).trans F2
    have G3 : upd (upd (upd H a1 (.lst (La.map V.str))) a2 (.lst (Lb.map V.str))) a3 (.lst (Lc.map V.str)) a3 = some (.lst (Lc.map V.str)) := upd_same
    have h4' : upd (upd (upd H a1 (.lst (La.map V.str))) a2 (.lst (Lb.map V.str))) a3 (.lst (Lc.map V.str)) a4 = none := h4
    have D3 := ((hD.new (o := .lst (La.map V.str)) h1).new (o := .lst (Lb.map V.str)) h2).new (o := .lst (Lc.map V.str)) h3
    have K3 : Keep dk dl H (upd (upd (upd H a1 (.lst (La.map V.str))) a2 (.lst (Lb.map V.str))) a3 (.lst (Lc.map V.str))) := ((Keep.refl.new h1).new h2).new h3
    have hn1 : a1 ≠ dl := (hD.off h1).2
    have hn2 : a2 ≠ dl := ((hD.new (o := .lst (La.map V.str)) h1).off h2).2
    have hn3 : a3 ≠ dl := (((hD.new (o := .lst (La.map V.str)) h1).new (o := .lst (Lb.map V.str)) h2).off h3).2
    have D4 := D3.new (o := .lst [V.ref a1, .ref a2, .ref a3]) h4'
    have K4 := K3.new (o := .lst [V.ref a1, .ref a2, .ref a3]) h4'
    have E4 := (upd_ne (o := .lst [V.ref a1, .ref a2, .ref a3]) (ne_of_none E3 h4')).trans E3
    have F4 := (upd_ne (o := .lst [V.ref a1, .ref a2, .ref a3]) (ne_of_none F3 h4')).trans F3
    have G4 := (upd_ne (o := .lst [V.ref a1, .ref a2, .ref a3]) (ne_of_none G3 h4')).trans G3
    refine ⟨dk, dl, a4, t, _, rfl, D4, (D3.off h4').2, upd_same, List.cons_ne_nil _ _, by show 3 ≤ 100; decide, t0, by omega, fun y H5 hy D5 K5 => ?_⟩
    have K5' := K4.trans K5
    have dkn : ∀ {q : Addr} {xs : List V} {G : Hp} {tt : Int}, DeckAt G dk dl tt → G q = some (.lst xs) → q ≠ dk := fun D e => by
      obtain ⟨⟨m, z, _⟩, _⟩ := D
      exact ne_of e z (by intro z; cases z)
    obtain ⟨lf, ls, rfl, hlf, hdl, hsub, hne, hl9⟩ : ∃ (lf : Addr) (ls : List Str), y = V.ref lf ∧ H5 lf = some (.lst (ls.map V.str)) ∧ lf ≠ dl ∧ (∀ x ∈ ls, x ∈ LV) ∧ ls ≠ [] ∧ ls.length ≤ 9 := by
      simp only [List.mem_cons, List.not_mem_nil, or_false] at hy
      rcases hy with rfl | rfl | rfl
      · exact ⟨a1, La, rfl, K5 _ _ (dkn D4 E4) hn1 E4, hn1, las, by decide, by decide⟩
      · exact ⟨a2, Lb, rfl, K5 _ _ (dkn D4 F4) hn2 F4, hn2, lbs, by decide, by decide⟩
      · exact ⟨a3, Lc, rfl, K5 _ _ (dkn D4 G4) hn3 G4, hn3, lcs, by decide, by decide⟩
    have hdk := dkn D5 hlf
    have M5 := M.keep hD K5'
    refine ⟨Nat.zero_le _, fun p0 hp0 => ?_⟩
    have D6 := D5.new (o := .tup []) hp0
    have K6 : Keep dk dl H5 (upd H5 p0 (.tup [])) := Keep.refl.new hp0
    have e6 : upd H5 p0 (.tup []) p0 = some (.tup []) := upd_same
    show Ends.nx _ _ (upd H5 p0 (.tup []))
    generalize upd H5 p0 (.tup []) = H6 at D6 K6 e6
    refine ⟨_, rfl, _, rfl, _, _, rfl, rfl, dk, dl, 7, t + 1, rfl, D6, by decide, by decide, by omega, by omega, fun r H7 r0 r1 D7 K7 => ?_⟩
    refine ⟨_, rfl, by omega, by omega, ?_⟩
    have hrN : ((r.toNat : Nat) : Int) = r := by omega
    refine for_range (lo := 0) (n := r.toNat) (fun i σ H' => ∃ (p : Addr) (ws : List V) (ds : List PyData) (t' : Int) (o6 : Option V), σ = [some (.ref dk), some (.ref mk), some (.int 6), some (.int 10), some (.ref lf), some (.ref p), o6] ∧ SqT K H' p ws ∧ DpAll K H' ws ds ∧ (∀ d ∈ ds, OkT ks d) ∧ (ds.map sz).sum ≤ 10 * i ∧ ws.length = i ∧ DeckAt H' dk dl t' ∧ t + 2 ≤ t' ∧ t' ≤ t + 2 + (i : Int) * 60 ∧ Keep dk dl H5 H' ∧ (∀ d ∈ ds, PyData.depth d ≤ 9))
      ⟨p0, [], [], t + 1 + 1, none, rfl, SqT.of (K7 _ _ (D5.off hp0).1 (D5.off hp0).2 e6), .nil, (fun _ z => (List.not_mem_nil z).elim), by simp, rfl, D7, by omega, by omega, K6.trans K7, (fun _ z => (List.not_mem_nil z).elim)⟩ ?_ ?_
    · rintro i σ H8 hi ⟨p, ws, ds, t', o6, rfl, hp, hd, ok, sm, wl, D8, ta, tb, K8, dp8⟩
      have i6 : (i : Int) + 1 ≤ 6 := by omega
      refine ⟨_, rfl, _, rfl, _, rfl, _, rfl, _, rfl, _, rfl, dk, dl, 10, t', rfl, D8, by decide, by decide, by omega, by omega, fun r2 H9 r20 r21 D9 K9 => ⟨_, _, rfl, rfl, ?_⟩⟩
      refine castT (E := E0) ⟨dk, dl, mk, lf, t' + 1, (1 + r2).toNat, ms, ks, ls, rfl, D9, M5.keep D5 (K8.trans K9), hdl, (K8.trans K9) _ _ hdk hdl hlf, hsub, hne, hl9, by omega, by omega, by omega, by omega, fun v d t'' H10 D10 xa xb K10 dv dr sd dd ft => ?_⟩ (by omega) rfl
      refine ⟨(by show 1 ≤ sizeLine; omega), fun q hq => ?_⟩
      have kt : KT K H8 (upd H10 q (.tup [v])) := ((K9.trans K10).kt D8).tr (kt_new hq)
      have okT : OkT ks d := ⟨dr, ft⟩
      have hd2 := ths_kt kt ds ws (okT_ths ok) hd
      have dv2 := th_kt (kt_new (o := .tup [v]) hq) d v (drawn_th dr) dv
      have sum2 : ((ds ++ [d]).map sz).sum ≤ 10 * (i + 1) := by
        rw [List.map_append, List.sum_append]
        simp only [List.map_cons, List.map_nil, List.sum_cons, List.sum_nil]
        omega
      have ok2 : ∀ z ∈ ds ++ [d], OkT ks z := fun z hz => by
        rcases List.mem_append.mp hz with hz | hz
        · exact ok z hz
        · rw [List.mem_singleton.mp hz]
          exact okT
      have dp9 : ∀ z ∈ ds ++ [d], PyData.depth z ≤ 9 := fun z hz => by
        rcases List.mem_append.mp hz with hz | hz
        · exact dp8 z hz
        · rw [List.mem_singleton.mp hz]
          exact dd
      refine ⟨p, q, ws, [v], rfl, rfl, kt _ _ hp, SqT.of upd_same, (by rw [List.length_cons, List.length_nil]; omega), fun wn => ?_, (fun _ z => nomatch z), fun wn _ p2 hp2 => ?_⟩
      · subst wn
        have : ds = [] := List.length_eq_zero_iff.mp (dps_len hd).symm
        subst this
        exact ⟨q, [v], [d], t'', _, rfl, SqT.of upd_same, .cons dv2 .nil, ok2, sum2, by rw [← wl]; rfl, D10.new hq, by omega, by rw [Int.natCast_succ]; omega, (K8.trans (K9.trans K10)).new hq, dp9⟩
      · have kt3 : KT K (upd H10 q (.tup [v])) (upd (upd H10 q (.tup [v])) p2 (.tup (ws ++ [v]))) := kt_new hp2
        exact ⟨p2, ws ++ [v], ds ++ [d], t'', _, rfl, SqT.of upd_same, dps_app (ths_kt kt3 _ _ (okT_ths ok) hd2) (.cons (th_kt kt3 _ _ (drawn_th dr) dv2) .nil), ok2, sum2, by rw [List.length_append, wl]; rfl, (D10.new hq).new hp2, by omega, by rw [Int.natCast_succ]; omega, ((K8.trans (K9.trans K10)).new hq).new hp2, dp9⟩
    · rintro σ H8 ⟨p, ws, ds, t', o6, rfl, hp, hd, ok, sm, wl, D8, ta, tb, K8, dp8⟩
      have dl' := dps_len hd
      have many : (ds.flatMap lot).length ≤ 60 := by
        rw [List.length_flatMap]
        have e : (ds.map fun d => (lot d).length) = ds.map sz := rfl
        rw [e]
        omega
      exact ⟨_, rfl, k p ws ds t' H8 D8 (by omega) (by omega) (K5'.trans K8) hp hd ⟨ok, by omega⟩ (by omega) many dp8⟩
end
end K09

set_option Elab.async false
set_option linter.all false
set_option maxRecDepth 100000
set_option maxHeartbeats 4000000
/-! The law's own replacing. -/
namespace K09
open PySem PySem.Spec PyProof.Rows L2 Mine TL
abbrev sLPut : Stmt := top 58
def spLPut (K : PySem.W.Frag) (n : Nat) : Sp := fun vs H Q _ => ∃ (v : V) (o : Addr) (kvs : List (Key × V)) (g : Str → PyData) (d : PyData), vs = [v, .ref o] ∧ Dp K H v d ∧ thing d = true ∧ PyData.depth d ≤ n ∧ sz d ≤ 4000 ∧ H o = some (.dK kvs) ∧ Tells K H kvs g ∧ (∀ x, thing (g x) = true) ∧ ∀ (z : V) (H' : Hp), Same H H' → Dp K H' z (put g d) → Q z H'
structure TxtLP (K : PySem.W.Frag) (mg : Str → Option Value) (f : Addr) : Prop where
  isi : mg "isinstance" = none
  str : mg "str" = none
  tuple : mg "tuple" = none
  gS : mg "_law_put" = some (.ref f)
  kS : PySem.W.keepIn K (.ref f) = true
abbrev nLPut : List Str := ["_law_it", "_law_others", "_law_bit"]
section
variable {P : Program} {w : World} {K : PySem.W.Frag} {mg : Str → Option Value} {base : Heap}
theorem scLPut : FnScope nLPut ["_law_it", "_law_others"] (defScope sLPut) := ⟨rfl, rfl, rfl, by decide +kernel, rfl, by decide +kernel, by decide +kernel⟩
theorem ok_lPut {f : Addr} {fd : FuncData} {n : Nat} {sp' : Sp} (F : Fun K "_law_put" "_law_put" sLPut f fd) (T : TxtLP K mg f) (b : Binds K fd ["_law_it", "_law_others"] []) (G : FnOk P w K mg base CX0 n f fd ["_law_it", "_law_others"] sp')
    (hG : ∀ m, n = m + 1 → ∀ vs H Q E, spLPut K m vs H Q E → sp' vs H Q E) : FnOk P w K mg base CX0 (n + 1) f fd ["_law_it", "_law_others"] (spLPut K n) := by
  refine F.ok scLPut (fun vs H Q E h => ?_) (fun cdv A outer s H vs Q E hr h => ?_)
  · obtain ⟨_, _, _, _, _, rfl, _⟩ := h
    rfl
  · obtain ⟨v, o, kvs, g, d, rfl, hd, td, dep, sz1, ho, tl, te, k⟩ := h
    have hu := hu_of hr
    refine ⟨_, pss_cons (ps_if (pt_val (pe_callB call_isi (by rfl) T.isi (by decide +kernel) (pa_cons (pv 0) (pa_cons (pe_bltn (v := .ty "str") rfl T.str (by decide +kernel) rfl) pa_nil)))) (pss_one (ps_ret (pe_dget2 hu (pv 1) (pv 0) (pv 0) ⟨rfl, by rfl, by rfl, rfl⟩))) pss_nil)
      (pss_one (ps_ret (pe_op op_catT (pe_slice sl_tup (pv 0) po_none (po_some pe_int)) (pe_callTy call_tuple_of (by rfl) T.tuple (by decide +kernel) (pa_cons (pe_lc (own := [("_law_bit", 2)]) (g := gName 2) rfl scLPut.nd (pi_tup (pe_slice sl_tup (pv 0) (po_some pe_int) po_none))
        (blkOk_by (own := [("_law_bit", 2)]) (N := nLPut) (sc := defScope sLPut) (by decide +kernel))
        (fun _ _ _ _ _ => pg_name (i := 2) scLPut.nd rfl (Or.inl rfl)) (fun _ _ _ _ _ => pts_nil) (fun _ _ _ _ _ => pe_call G hr rfl T.gS T.kS b .nil pass0 (pa_cons (pv 2) (pa_cons (pv 1) pa_nil)))) pa_nil))))), ?_⟩
    have line : sizeLine = 16777216 := sizeLine_eq
    have pth : ∀ t, thing t = true → thing (put g t) = true := fun t ht => put_thing te _ t (Nat.le_refl _) ht
    rcases th_cases td hd with ⟨c, rfl, rfl⟩ | ⟨a, c, zs, ps, rfl, rfl, ha, hzs, pne, tps⟩
    · refine ⟨_, rfl, _, _, _, _, true, rfl, .ty "str", .base (.str _), kit_ty rfl, _, rfl, ite2 (fun _ => ?_) (fun z => absurd rfl z)⟩
      rcases tl c with ⟨e1, e2⟩ | ⟨u, e1, e2⟩
      · refine ⟨_, rfl, o, rfl, .inl ⟨kvs, .inl ho⟩, _, rfl, _, rfl, none, .inl ⟨kvs, .inr c, .inl ho, rfl, e1.symm⟩, k _ H same_rfl ?_⟩
        rw [put_str, e2]
        exact .str c
      · refine ⟨_, rfl, o, rfl, .inl ⟨kvs, .inl ho⟩, _, rfl, _, rfl, some u, .inl ⟨kvs, .inr c, .inl ho, rfl, e1.symm⟩, k _ H same_rfl ?_⟩
        rw [put_str]
        exact e2
    · refine ⟨_, rfl, _, _, _, _, false, rfl, .ty "str", sqT_ty' ha, kit_ty rfl, _, rfl, ite2 (fun z => absurd z (by decide)) (fun _ => ?_)⟩
      obtain ⟨m, rfl⟩ : ∃ m, n = m + 1 := by
        cases n with
        | zero => simp only [PyData.depth] at dep; omega
        | succ m => exact ⟨m, rfl⟩
      have zl := dps_len hzs
      have zn : zs ≠ [] := fun z => pne (List.length_eq_zero_iff.mp (by rw [← zl, z]; rfl))
      have zpos : 0 < zs.length := List.length_pos_iff.mpr zn
      have cut := cut1' (.str c) zs
      have kn := kids_num sz1
      have i1 : HT.sIx (V.str c :: zs).length 0 (some 1) = 1 := by
        have e := HT.sIx_nat (V.str c :: zs).length 0 1
        rw [Nat.min_eq_left (by rw [List.length_cons]; omega)] at e
        exact e
      have i2 : HT.sIx (V.str c :: zs).length (V.str c :: zs).length (some 1) = 1 := by
        have e := HT.sIx_nat (V.str c :: zs).length (V.str c :: zs).length 1
        rw [Nat.min_eq_left (by rw [List.length_cons]; omega)] at e
        exact e
      have whole : ¬ (HT.sIx (V.str c :: zs).length 0 (some 1) = 0 ∧ HT.sIx (V.str c :: zs).length (V.str c :: zs).length none = (V.str c :: zs).length) := fun z => by
        rw [i1] at z
        cases z.1
      have whole2 : ¬ (HT.sIx (V.str c :: zs).length 0 none = 0 ∧ HT.sIx (V.str c :: zs).length (V.str c :: zs).length (some 1) = (V.str c :: zs).length) := fun z => by
        rw [i2, List.length_cons] at z
        omega
      have cut2 : cutV (V.str c :: zs) none (some 1) = [V.str c] := by
        unfold cutV
        rw [i2, HT.sIx_none]
        simp
      refine ⟨_, rfl, _, rfl, a, _, rfl, ha, whole2, fun p0 hp0 => ?_⟩
      rw [cut2]
      have s0 : Same H (upd H p0 (.tup [V.str c])) := same_new same_rfl hp0
      have e0 : upd H p0 (.tup [V.str c]) p0 = some (.tup [V.str c]) := upd_same
      generalize upd H p0 (.tup [V.str c]) = H0 at s0 e0
      refine ⟨_, rfl, _, rfl, a, _, rfl, kt_same s0 _ _ ha, whole, fun p hp => ?_⟩
      rw [cut]
      have s1 : Same H0 (upd H0 p (.tup zs)) := same_new same_rfl hp
      have ep : upd H0 p (.tup zs) p = some (.tup zs) := upd_same
      refine ⟨p, rfl, ⟨_, SqT.of ep⟩, fun D hD => ?_⟩
      refine lc_tup (K := K) (a := p) (xs := zs) (fun i H' => ∃ ys, H' D = some (.lst ys) ∧ DpAll K H' ys ((ps.take i).map (put g)) ∧ Same (upd H0 p (.tup zs)) H') ⟨[], upd_same, .nil, same_new same_rfl hD⟩ (fun i H' _ ⟨_, _, _, z⟩ => SqT.of (z _ _ ep)) ?_ ?_
      · rintro i y H' hi ⟨ys, eD, dy0, s2⟩
        have il : i < zs.length := (List.getElem?_eq_some_iff.mp hi).1
        have hx : ps[i]? = some ps[i] := List.getElem?_eq_getElem (by omega)
        obtain ⟨y', hy', dy⟩ := dps_at hzs hx
        rw [hi] at hy'
        cases hy'
        generalize ps[i] = t at hx dy
        have mx := List.mem_of_getElem? hx
        have mk : t ∈ kids (.tuple (.str c :: ps)) := mx
        have tk : ps.take (i + 1) = ps.take i ++ [t] := by rw [List.take_add_one, hx]; rfl
        have szx := kid_sz mk
        have s012 := same_tr s0 (same_tr s1 s2)
        have yl := dps_len dy0
        rw [List.length_map, List.length_take] at yl
        refine ⟨rfl, ?_⟩
        refine yes_if ?_
        have tl' : Tells K H' kvs g := fun x => (tl x).elim .inl fun ⟨v, e1, e2⟩ => .inr ⟨v, e1, dp_same s012 _ _ e2⟩
        refine ⟨_, rfl, _, rfl, hG m rfl _ _ _ _ ⟨y, o, kvs, g, t, rfl, th_kt (kt_same s012) t y (tps t mx) dy, tps t mx, kid_depth mk dep, by omega, s012 _ _ ho, tl', te, fun z H2 s3 hz => ?_⟩⟩
        refine ⟨ys, s3 _ _ eD, by omega, ys ++ [z], upd_same, ?_, fun b o eb => (upd_ne (ne_of_none eb hD)).trans (s3 _ _ (s2 _ _ eb))⟩
        have kt : KT K H' (upd H2 D (.lst (ys ++ [z]))) := (kt_same s3).tr (kt_lst (s3 _ _ eD))
        rw [tk, List.map_append]
        refine dps_app (ths_kt kt _ _ (thingAll_iff.mpr fun q hq => ?_) dy0) (.cons (th_kt (kt_lst (s3 _ _ eD)) _ z (pth t (tps t mx)) hz) .nil)
        obtain ⟨q', hq', rfl⟩ := List.mem_map.mp hq
        exact pth q' (tps q' (List.mem_of_mem_take hq'))
      · rintro H1 ⟨ys, eD, dys, s2⟩
        rw [zl, List.take_of_length_le (Nat.le_refl _)] at dys
        have yl := dps_len dys
        rw [List.length_map] at yl
        refine ⟨D, ys, rfl, .inl ⟨SqL.of eD, fun r hr => ?_⟩⟩
        have s3 : Same H1 (upd H1 r (.tup ys)) := same_new same_rfl hr
        have yn : ys ≠ [] := fun z => zn (List.length_eq_zero_iff.mp (by rw [zl, ← yl, z]; rfl))
        refine ⟨p0, r, _, _, rfl, rfl, SqT.of (s3 _ _ (s2 _ _ (s1 _ _ e0))), SqT.of upd_same, List.cons_ne_nil _ _, (by rw [List.length_cons, List.length_nil]; omega), (fun z => absurd z yn), fun _ q hq => ?_⟩
        have s4 : Same (upd H1 r (.tup ys)) (upd (upd H1 r (.tup ys)) q (.tup ([V.str c] ++ ys))) := same_new same_rfl hq
        refine k _ _ (same_tr s0 (same_tr s1 (same_tr s2 (same_tr s3 s4)))) ?_
        rw [put_tup]
        refine .tup (SqT.of upd_same) (.cons (.str c) (ths_kt (kt_same (same_tr s3 s4)) _ _ (thingAll_iff.mpr fun q hq => ?_) dys))
        obtain ⟨q', hq', rfl⟩ := List.mem_map.mp hq
        exact pth q' (tps q' hq')
end
end K09

set_option Elab.async false
set_option linter.all false
set_option maxRecDepth 100000
set_option maxHeartbeats 4000000
/-! Whether a row is what it should be, as the law sees it. -/
namespace K09
open PySem PySem.Spec PyProof.Rows L2 Mine TL SkE StX
abbrev sLIs : Stmt := top 59
def spLawIs (K : PySem.W.Frag) (CB CR : Addr) : Sp := fun vs H Q _ => ∃ (r c t : Addr) (ks : List (Str × Int)) (os : List Opn) (ws : List V) (ds : List PyData), vs = [.ref r, .ref c, .ref t] ∧ RowAt K CB CR H r ks os ds ∧ BkAt K CB H c ks os ∧ SqT K H t ws ∧ DpAll K H ws ds ∧ ds.length ≤ 20 ∧ (∀ d ∈ ds, PyData.depth d ≤ 25) ∧ ∀ H', Same H H' → Q (.bl true) H'
structure TxtLs (K : PySem.W.Frag) (mg : Str → Option Value) (CB CR fE : Addr) : Prop where
  cl : Cls K CR
  nB : NoAttr K CR "book"
  nT : NoAttr K CR "things"
  isi : mg "isinstance" = none
  repr : mg "repr" = none
  gR : mg "Row" = some (.ref CR)
  ha : PySem.W.findIn K (.ref CR) "__class__" = some (some (.builtin "object.__class__"))
  hn : PySem.W.specialIn K (.builtin "object.__class__") "__get__" = some (some (.builtin "getset_descriptor.__get__"))
  ht : PySem.W.takesIn K (.builtin "object.__class__") = some true
  hm : PySem.W.mroIn K CR (.type "object") = some true
  aE : PySem.W.findIn K (.ref CB) "__eq__" = some (some (.ref fE))
  iE : PySem.W.isFn K (.ref fE) = true
theorem shows_row {ks : List (Str × Int)} {ds : List PyData} (ok : OkR ks ds) (l : ds.length ≤ 20) (dep : ∀ d ∈ ds, PyData.depth d ≤ 25) : Shows 3000000 26 (.tuple ds) := by
  have a := shows_tuple (n := 120000) (l := 25) fun d hd => (shows_thing (ok.each d hd).dr (dep d hd)).up (n' := 120000) (by have := ok.szs hd; omega) (Nat.le_refl _)
  refine a.up ?_ (Nat.le_refl _)
  generalize ds.length = n at l ⊢
  omega
section
variable {P : Program} {w : World} {K : PySem.W.Frag} {mg : Str → Option Value} {base : Heap}
theorem scLIs : FnScope ["_law_near", "_law_code", "_law_it"] ["_law_near", "_law_code", "_law_it"] (defScope sLIs) := ⟨rfl, rfl, rfl, by decide +kernel, rfl, by decide +kernel, by decide +kernel⟩
theorem ok_lIs {f CB CR fE : Addr} {fd dE : FuncData} (F : Fun K "_law_is" "_law_is" sLIs f fd) (T : TxtLs K mg CB CR fE) (GE : FnOk P w K mg base CX0 1 fE dE ["self", "other"] (spEq (Alike K CB))) (bE : Binds K dE ["self", "other"] []) :
    FnG P w K mg base 2 f fd ["_law_near", "_law_code", "_law_it"] (spLawIs K CB CR) := by
  refine fnG_of F scLIs (fun vs H Q E h => ?_) (fun cdv A outer s H vs Q E hr hgd h => ?_)
  · obtain ⟨_, _, _, _, _, _, _, rfl, _⟩ := h
    rfl
  · obtain ⟨r, c, t, ks, os, ws, ds, rfl, R, B, ht, hd, l20, dep, k⟩ := h
    have hun : (A.deeper (envOfC "_law_is" (defScope sLIs) s.heap.objs.size f cdv)).units + 30 + 20 < cLine := by
      have := hr.un
      omega
    have line : sizeLine = 16777216 := sizeLine_eq
    obtain ⟨dx, b1, t1, n1, p1, ws1, ps1, pds1, ys1, h1, h2, h3, h4, _⟩ := id R.ex
    obtain ⟨dxb, kk, oo, pp, as, hb1, _⟩ := id h2.ex
    obtain ⟨dyb, kk', oo', pp', as', hb2, _⟩ := id B.ex
    refine ⟨_, pss_one (ps_ret (pe_and (pe_callB call_isi (by rfl) T.isi (by decide +kernel) (pa_cons (pv 0) (pa_cons (pe_glob (v := .ref CR) rfl T.gR rfl) pa_nil)))
      (pe_and (pe_cmpR (op_eqG (rcG_ins GE T.aE T.iE bE pass0) hr) (pe_fld (pv 0) rfl) (pv 1) (nomark _))
      (pe_one (pe_cmpR op_eq (pe_callB (call_reprQ (m := 30) hgd hun) (by rfl) T.repr (by decide +kernel) (pa_cons (pe_fld (pv 0) rfl) pa_nil)) (pe_callB (call_reprQ (m := 30) hgd hun) (by rfl) T.repr (by decide +kernel) (pa_cons (pv 2) pa_nil)) (nomark _)))))), ?_⟩
    have sh := (shows_row R.ok l20 dep).up (n' := sizeLine) (l' := 30) (by omega) (by omega)
    refine ⟨_, rfl, _, _, _, _, true, rfl, .own CR, .base (.ins h1 T.cl T.ha T.hn T.ht T.hm), kit_me, _, rfl, ite2 (fun _ => ?_) (fun z => absurd rfl z)⟩
    refine ⟨_, rfl, r, CR, dx, _, _, rfl, h1, T.cl, T.nB, rfl, _, rfl, ⟨b1, c, _, _, _, _, rfl, rfl, hb1, hb2, ks, os, h2, B⟩, fun H1 s1 => ⟨_, rfl, ite2 (fun _ => ?_) (fun z => absurd rfl z)⟩⟩
    refine ⟨_, rfl, r, CR, dx, _, _, rfl, s1 _ _ h1, T.cl, T.nT, rfl, t1, ws1, ds, rfl, dps_same s1 _ _ h4, .inr ⟨kt_same s1 _ _ h3, sh, ?_⟩⟩
    refine ⟨_, rfl, t, ws, ds, rfl, dps_same s1 _ _ hd, .inr ⟨kt_same s1 _ _ ht, sh, rfl, ?_⟩⟩
    rw [decide_eq_true rfl]
    exact k _ s1
end
end K09

set_option Elab.async false
set_option linter.all false
set_option maxRecDepth 100000
set_option maxHeartbeats 4000000
/-! Drawn other names. -/
namespace K09
open PySem PySem.Spec PyProof.Rows L2 Mine TL SkE StX
abbrev sWays : Stmt := top 61
abbrev nWays : List Str := ["_law_deck_here", "_law_labels", "_law_left", "_law_found", "_law_go", "_law_ahead"]
abbrev LBS : List Str := [PySem.Str.ofString "K", PySem.Str.ofString "L", PySem.Str.ofString "K1", PySem.Str.ofString "Zz", PySem.Str.ofString "N"]
abbrev LB7 : List Str := [PySem.Str.ofString "K", PySem.Str.ofString "L", PySem.Str.ofString "K1", PySem.Str.ofString "Zz", PySem.Str.ofString "N", PySem.Str.ofString "Q", PySem.Str.ofString "Q9"]
theorem lb7s : ∀ x ∈ LB7, x ∈ LV := by decide +kernel
def spWays (K : PySem.W.Frag) : Sp := fun vs H Q _ => ∃ (dk dl lb : Addr) (t : Int), vs = [.ref dk, .ref lb] ∧ DeckAt H dk dl t ∧ H lb = some (.lst (LBS.map V.str)) ∧ lb ≠ dl ∧ 0 ≤ t ∧ t ≤ 90000 ∧
  ∀ (a : Addr) (ps : List Addr) (ren : List (Str × Str)) (t' : Int) (H' : Hp), DeckAt H' dk dl t' → t ≤ t' → t' ≤ t + 20 → Keep dk dl H H' → Fz H' a (ps.map V.ref) → Paired (fun p kv => SqT K H' p [kV kv.1, kv.2]) ps (ren.map kvS) → (∀ p ∈ ren, p.2 ∈ LV) → Q (.ref a) H'
structure TxtWy (K : PySem.W.Frag) (mg : Str → Option Value) (fD fP : Addr) : Prop where
  range : mg "range" = none
  list : mg "list" = none
  len : mg "len" = none
  tuple : mg "tuple" = none
  d : Has K mg "_law_draw" fD
  p : Has K mg "_law_pick" fP
theorem deck_off {dk dl p : Addr} {G : Hp} {t : Int} {o : HO} (h : DeckAt G dk dl t) (h1 : p ≠ dk) (h2 : p ≠ dl) : DeckAt (upd G p o) dk dl t := by
  obtain ⟨⟨m, a, b, c⟩, ⟨cs, d, e⟩⟩ := h
  exact ⟨⟨m, (upd_ne h1.symm).trans a, b, c⟩, ⟨cs, (upd_ne h2.symm).trans d, e⟩⟩
theorem keep_off {dk dl p : Addr} {H G : Hp} {o : HO} (k : Keep dk dl H G) (np : H p = none) : Keep dk dl H (upd G p o) := fun c u h1 h2 e => (upd_ne (ne_of_none e np)).trans (k c u h1 h2 e)
theorem seq_at {r : Int} {n : Nat} (h0 : 0 ≤ r) (h1 : r < (n : Int)) : seqIndex? r n = some r.toNat := by
  unfold seqIndex?
  have e : (if r < 0 then r + (n : Int) else r) = r := if_neg (by omega)
  simp only [e]
  rw [if_pos (by simp [h0, h1])]
theorem erase_map : ∀ (l : List Str) (k : Nat), (l.map V.str).eraseIdx k = (l.eraseIdx k).map V.str
  | [], _ => rfl
  | _ :: _, 0 => rfl
  | x :: l, k + 1 => by
    show V.str x :: (l.map V.str).eraseIdx k = V.str x :: (l.eraseIdx k).map V.str
    rw [erase_map l k]
section
variable {P : Program} {w : World} {K : PySem.W.Frag} {mg : Str → Option Value} {base : Heap}
theorem scWays : FnScope nWays ["_law_deck_here", "_law_labels"] (defScope sWays) := ⟨rfl, rfl, rfl, by decide +kernel, rfl, by decide +kernel, by decide +kernel⟩
theorem ok_ways {f fD fP : Addr} {fd dD dP : FuncData} (F : Fun K "_law_ways" "_law_ways" sWays f fd) (T : TxtWy K mg fD fP) (GD : FnOk P w K mg base CX0 1 fD dD ["_law_deck_here", "_law_below"] spDraw) (bD : Binds K dD ["_law_deck_here", "_law_below"] [])
    (GP : FnOk P w K mg base CX0 2 fP dP ["_law_deck_here", "_law_some"] spPick) (bP : Binds K dP ["_law_deck_here", "_law_some"] []) : FnOk P w K mg base CX0 3 f fd ["_law_deck_here", "_law_labels"] (spWays K) := by
  refine F.ok scWays (fun vs H Q E h => ?_) (fun cdv A outer s H vs Q E hr h => ?_)
  · obtain ⟨_, _, _, _, rfl, _⟩ := h
    rfl
  · obtain ⟨dk, dl, lb, t, rfl, hD, hlb, hne, t0, t1, k⟩ := h
    have hr1 : Room 1 _ := hr.mono (by decide)
    have line : sizeLine = 16777216 := sizeLine_eq
    refine ⟨_, pss_cons (ps_par (i := 2) (j := 3) rfl scWays.nd rfl rfl (by decide) rfl rfl (pa_cons (pe_callTy call_list_of (by rfl) T.list (by decide +kernel) (pa_cons (pv 1) pa_nil)) (pa_cons (pe_lst pa_nil) pa_nil)) (by rfl))
      (pss_cons (ps_for PassesOwn.never rfl (pi_range1 rfl T.range (pa_cons (pe_call GD hr1 rfl T.d.g T.d.k bD .nil pass0 (pa_cons (pv 0) (pa_cons (pe_op op_add (pe_callB call_len_seq (by rfl) T.len PySem.boot_len (pa_cons (pv 1) pa_nil)) pe_int) pa_nil))) pa_nil)) (pg_name (i := 4) scWays.nd rfl (.inl rfl))
        (pss_cons (ps_set (i := 5) scWays.nd rfl (.inl rfl) (pe_bm PySem.F.plainAttrs_list PySem.F.slot_list_pop PySem.F.type_list_pop mt_popAt (pv 2) (pa_cons (pe_call GD hr1 rfl T.d.g T.d.k bD .nil pass0 (pa_cons (pv 0) (pa_cons (pe_callB call_len_seq (by rfl) T.len PySem.boot_len (pa_cons (pv 2) pa_nil)) pa_nil))) pa_nil)))
        (pss_one (ps_expr (pe_bm PySem.F.plainAttrs_list PySem.F.slot_list_append PySem.F.type_list_append mt_append (pv 3) (pa_cons (pe_tup (pa_cons (pv 5) (pa_cons (pe_call GP hr rfl T.p.g T.p.k bP .nil pass0 (pa_cons (pv 0) (pa_cons (pe_op op_cat (pv 1) (pe_lst (pa_cons pe_str (pa_cons pe_str pa_nil)))) pa_nil))) pa_nil))) pa_nil))))))
      (pss_one (ps_ret (pe_callTy call_tupleF (by rfl) T.tuple (by decide +kernel) (pa_cons (pv 3) pa_nil))))), ?_⟩
    refine ⟨_, rfl, lb, _, rfl, .inl (SqL.of hlb), fun p hp => ⟨Nat.zero_le _, fun q hq => ⟨_, _, rfl, ?_⟩⟩⟩
    have D1 := (hD.new (o := .lst (LBS.map V.str)) hp).new (o := .lst []) hq
    have K1 : Keep dk dl H (upd (upd H p (.lst (LBS.map V.str))) q (.lst [])) := (Keep.refl.new hp).new hq
    have nq : H q = none := by
      cases e : H q with
      | none => rfl
      | some u =>
        have := (upd_ne (o := .lst (LBS.map V.str)) (ne_of_none e hp)).trans e
        rw [hq] at this
        cases this
    have pq : p ≠ q := ne_of_none upd_same hq
    have ep : upd (upd H p (.lst (LBS.map V.str))) q (.lst []) p = some (.lst (LBS.map V.str)) := (upd_ne pq).trans upd_same
    have eq : upd (upd H p (.lst (LBS.map V.str))) q (.lst []) q = some (.lst []) := upd_same
    have elb := K1 _ _ (by obtain ⟨⟨m, z, _⟩, _⟩ := hD; exact ne_of hlb z (by intro z; cases z)) hne hlb
    obtain ⟨pdk, pdl⟩ := hD.off hp
    obtain ⟨qdk, qdl⟩ := hD.off nq
    have lbdk : lb ≠ dk := by obtain ⟨⟨m, z, _⟩, _⟩ := hD; exact ne_of hlb z (by intro z; cases z)
    have lbp : lb ≠ p := ne_of_none hlb hp
    have lbq : lb ≠ q := ne_of_none hlb nq
    show Ends.nx _ _ (upd (upd H p (.lst (LBS.map V.str))) q (.lst []))
    generalize upd (upd H p (.lst (LBS.map V.str))) q (.lst []) = H1 at D1 K1 ep eq elb
    refine ⟨_, rfl, _, rfl, lb, _, rfl, .inl (SqL.of elb), _, _, rfl, rfl, dk, dl, 6, t, rfl, D1, by decide, by decide, by omega, by omega, fun r H2 r0 r1 D2 K2 => ?_⟩
    refine ⟨_, rfl, by omega, by omega, ?_⟩
    refine for_range (lo := 0) (n := r.toNat) (fun i σ H' => ∃ (l : List Str) (ps : List Addr) (ren : List (Str × Str)) (t' : Int) (o4 o5 : Option V), σ = [some (.ref dk), some (.ref lb), some (.ref p), some (.ref q), o4, o5] ∧ H' p = some (.lst (l.map V.str)) ∧ l.length + i = 5 ∧ H' q = some (.lst (ps.map V.ref)) ∧ ps.length = i ∧ Paired (fun p kv => SqT K H' p [kV kv.1, kv.2]) ps (ren.map kvS) ∧ (∀ z ∈ ren, z.2 ∈ LV) ∧ DeckAt H' dk dl t' ∧ t + 1 ≤ t' ∧ t' ≤ t + 1 + (i : Int) * 2 ∧ Keep dk dl H H')
      ⟨LBS, [], [], t + 1, none, none, rfl, K2 _ _ pdk pdl ep, rfl, K2 _ _ qdk qdl eq, rfl, .nil, (fun _ z => (List.not_mem_nil z).elim), D2, by omega, by omega, K1.trans K2⟩ ?_ ?_
    · rintro i σ H3 hi ⟨l, ps, ren, t', o4, o5, rfl, ep3, ll, eq3, pl, pr, rl, D3, ta, tb, K3⟩
      have i5 : (i : Int) + 1 ≤ 5 := by omega
      refine ⟨_, rfl, .inl ⟨rfl, _, SqL.of ep3⟩, _, rfl, _, rfl, p, _, rfl, .inl (SqL.of ep3), dk, dl, ((l.map V.str).length : Nat), t', rfl, D3, by rw [List.length_map]; omega, by rw [List.length_map]; omega, by omega, by omega, fun r2 H4 r20 r21 D4 K4 => ?_⟩
      rw [List.length_map] at r21
      have ep4 := K4 _ _ pdk pdl ep3
      have rn : r2.toNat < l.length := by omega
      have hy : (l.map V.str)[r2.toNat]? = some (V.str l[r2.toNat]) := by
        rw [List.getElem?_map, List.getElem?_eq_getElem rn]
        rfl
      refine ⟨p, _, r2, r2.toNat, _, rfl, rfl, ep4, by omega, by omega, by rw [List.length_map]; exact seq_at r20 r21, hy, ?_⟩
      have er : (l.map V.str).eraseIdx r2.toNat = (l.eraseIdx r2.toNat).map V.str := by
        exact erase_map l r2.toNat
      rw [er]
      have D5 := deck_off (o := .lst ((l.eraseIdx r2.toNat).map V.str)) D4 pdk pdl
      have K5 := keep_off (o := .lst ((l.eraseIdx r2.toNat).map V.str)) (K3.trans K4) hp
      have e5 : upd H4 p (.lst ((l.eraseIdx r2.toNat).map V.str)) p = some (.lst ((l.eraseIdx r2.toNat).map V.str)) := upd_same
      have eq5 := (upd_ne (o := .lst ((l.eraseIdx r2.toNat).map V.str)) pq.symm).trans (K4 _ _ qdk qdl eq3)
      have kt35 : KT K H3 (upd H4 p (.lst ((l.eraseIdx r2.toNat).map V.str))) := (K4.kt D3).tr (kt_lst ep4)
      show Ends.nx _ _ (upd H4 p (.lst ((l.eraseIdx r2.toNat).map V.str)))
      generalize upd H4 p (.lst ((l.eraseIdx r2.toNat).map V.str)) = H5 at D5 K5 e5 eq5 kt35
      have elb5 := K5 _ _ lbdk hne hlb
      refine ⟨_, rfl, .inl ⟨rfl, _, SqL.of eq5⟩, _, rfl, _, rfl, _, rfl, (by show 2 ≤ sizeLine; omega), fun a1 h1 => ?_⟩
      have elb6 := (upd_ne (o := .lst [V.str (PySem.Str.ofString "Q"), V.str (PySem.Str.ofString "Q9")]) (ne_of_none elb5 h1)).trans elb5
      refine ⟨lb, a1, _, _, rfl, rfl, elb6, upd_same, (by show 7 ≤ sizeLine; omega), fun a2 h2 => ?_⟩
      have D7 := (D5.new (o := .lst [V.str (PySem.Str.ofString "Q"), V.str (PySem.Str.ofString "Q9")]) h1).new (o := .lst (LB7.map V.str)) h2
      have K57 : Keep dk dl H5 (upd (upd H5 a1 (.lst [V.str (PySem.Str.ofString "Q"), V.str (PySem.Str.ofString "Q9")])) a2 (.lst (LB7.map V.str))) := (Keep.refl.new h1).new h2
      refine ⟨dk, dl, a2, t' + 1, LB7.map V.str, rfl, D7, ((D5.new (o := .lst [V.str (PySem.Str.ofString "Q"), V.str (PySem.Str.ofString "Q9")]) h1).off h2).2, upd_same, by simp, by simp, by omega, by omega, fun y H8 hy8 D8 K8 => ?_⟩
      obtain ⟨c, hc, rfl⟩ := List.mem_map.mp hy8
      refine ⟨(by show 2 ≤ sizeLine; omega), fun a3 h3 => ?_⟩
      have K58 := K57.trans K8
      have eq8 := K58 _ _ qdk qdl eq5
      have eq9 := (upd_ne (o := .tup [V.str l[r2.toNat], V.str c]) (ne_of_none eq8 h3)).trans eq8
      have e8 := K58 _ _ pdk pdl e5
      have e9 := (upd_ne (o := .tup [V.str l[r2.toNat], V.str c]) (ne_of_none e8 h3)).trans e8
      refine ⟨q, _, .ref a3, rfl, rfl, eq9, by rw [List.length_map]; omega, ?_⟩
      have kt : KT K H3 (upd (upd H8 a3 (.tup [V.str l[r2.toNat], V.str c])) q (.lst (ps.map V.ref ++ [V.ref a3]))) := (kt35.tr (K58.kt D5)).tr ((kt_new h3).tr (kt_lst eq9))
      have a3q : a3 ≠ q := fun z => by
        rw [z, eq8] at h3
        cases h3
      refine ⟨l.eraseIdx r2.toNat, ps ++ [a3], ren ++ [(l[r2.toNat], c)], t' + 1 + 1, _, _, rfl, (upd_ne pq).trans e9, ?_, by rw [upd_same, List.map_append]; rfl, by rw [List.length_append, pl]; rfl, ?_, ?_, deck_off (D8.new h3) qdk qdl, by omega, by rw [Int.natCast_succ]; omega, keep_off ((K5.trans K58).new h3) nq⟩
      · rw [List.length_eraseIdx, if_pos rn]
        omega
      · rw [List.map_append]
        exact (Paired.mono (fun _ _ z => kt _ _ z) pr).snoc (SqT.of ((upd_ne a3q).trans upd_same))
      · intro z hz
        rcases List.mem_append.mp hz with hz | hz
        · exact rl z hz
        · rw [List.mem_singleton.mp hz]
          exact lb7s c hc
    · rintro σ H3 ⟨l, ps, ren, t', o4, o5, rfl, ep3, ll, eq3, pl, pr, rl, D3, ta, tb, K3⟩
      refine ⟨_, rfl, q, _, rfl, SqL.of eq3, fun a o ha ho => ?_⟩
      exact k a ps ren t' _ (D3.new ha) (by omega) (by omega) (K3.new ha) ⟨o, upd_same, ho⟩ (Paired.mono (fun _ _ z => kt_new ha _ _ z) pr) rl
end
end K09

set_option Elab.async false
set_option linter.all false
set_option maxRecDepth 100000
set_option maxHeartbeats 4000000
/-! What the law asks of a row. -/
namespace K09
open PySem PySem.Spec PyProof.Rows L2 Mine TL SkE StX
abbrev sLRight : Stmt := top 60
abbrev nLRight : List Str := ["_law_near", "_law_code", "_law_it", "_law_label", "_law_put_here", "_law_ways_here", "_law_lot_here", "_law_unit", "_law_known", "_law_labels", "_law_told", "_law_page", "_law_due", "_law_made"]
abbrev pRight : List Str := ["_law_near", "_law_code", "_law_it", "_law_label", "_law_put_here", "_law_ways_here"]
def spLRight (K : PySem.W.Frag) (CB CR : Addr) : Sp := fun vs H Q _ => ∃ (r c t wy : Addr) (u : V) (n : Str) (e : PyData) (ks : List (Str × Int)) (os : List Opn) (ws : List V) (ds : List PyData) (ps : List Addr) (ren : List (Str × Str)), vs = [.ref r, .ref c, .ref t, .str n, u, .ref wy] ∧ RowAt K CB CR H r ks os ds ∧ BkAt K CB H c ks os ∧
  SqT K H t ws ∧ DpAll K H ws ds ∧ ds.length ≤ 6 ∧ (ds.flatMap lot).length ≤ 60 ∧ (∀ d ∈ ds, PyData.depth d ≤ 9) ∧ Dp K H u e ∧ drawn e = true ∧ fitK ks e = true ∧ sz e ≤ 4 ∧ PyData.depth e ≤ 2 ∧ TupN K H wy (ps.map V.ref) ∧ Paired (fun p kv => SqT K H p [kV kv.1, kv.2]) ps (ren.map kvS) ∧ (∀ p ∈ ren, p.2 ∈ LV) ∧ ∀ H', Same H H' → Q (.bl true) H'
structure TxtLR (K : PySem.W.Frag) (mg : Str → Option Value) (CR fLot fTxt fLN fPut fIs fRep fRen : Addr) : Prop where
  cl : Cls K CR
  nP : NoAttr K CR "pieces"
  nN : NoAttr K CR "names"
  mRep : Meth K CR "replaced" fRep
  mRen : Meth K CR "renamed" fRen
  tuple : mg "tuple" = none
  sorted : mg "sorted" = none
  repr : mg "repr" = none
  dict : mg "dict" = none
  list : mg "list" = none
  sum : mg "sum" = none
  lot : Has K mg "_law_lot" fLot
  txt : Has K mg "_law_text" fTxt
  ln : Has K mg "_law_is_name" fLN
  put : Has K mg "_law_put" fPut
  is : Has K mg "_law_is" fIs
def rListOf (K : PySem.W.Frag) : List V → Hp → VK → Prop := fun xs H Q => ∃ p ys, xs = [.ref p] ∧ (SqL K H p ys ∨ SqT K H p ys) ∧ ∀ l, H l = none → Q (.ref l) (upd H l (.lst ys))
def rDictP (K : PySem.W.Frag) : List V → Hp → VK → Prop := fun xs H Q => ∃ (a : Addr) (ps : List Addr) (kvs : List (Key × V)), xs = [.ref a] ∧ SqL K H a (ps.map V.ref) ∧ Paired (fun p kv => SqT K H p [kV kv.1, kv.2]) ps kvs ∧ ∀ p, H p = none → Q (.ref p) (upd H p (.dK (mergeK [] kvs)))
def rSumJ (K : PySem.W.Frag) : List V → Hp → VK → Prop := fun vs H Q => ∃ (a b : Addr) (ps : List Addr) (xss : List (List V)), vs = [.ref a, .ref b] ∧ SqL K H a (ps.map V.ref) ∧ H b = some (.lst []) ∧ Paired (fun p xs => H p = some (.lst xs)) ps xss ∧ xss.flatten.length ≤ sizeLine ∧ ∀ r G, Same H G → G r = some (.lst xss.flatten) → Q (.ref r) G
theorem cr_sumJ {X : Cx} (hc : X.calm = true) : CallR X (.builtin "sum") (rSumJ X.K) := by
  intro pins s σ H vs us Q I r h
  obtain ⟨a, b, ps, xss, rfl, ha, hb, hp, fit, q⟩ := h
  refine cr_sumL hc pins s σ H _ us Q I r ⟨a, b, ps, xss, rfl, ha, hb, hp, fit, fun e => ?_, fun r hr => q r _ (same_new same_rfl hr) upd_same⟩
  subst e
  cases hp
  exact q b H same_rfl hb
theorem isN_free {x : Str} (h : isN x = true) : ∀ c ∈ x.cps.toList, c ≠ 40 := fun c hc e => by
  subst e
  unfold isN at h
  rw [Bool.and_eq_true] at h
  have h2 := h.2
  cases e : x.cps.toList with
  | nil => rw [e] at hc; cases hc
  | cons a l =>
    rw [e] at h2 hc
    rw [Bool.and_eq_true, List.all_eq_true] at h2
    rcases List.mem_cons.mp hc with r | r
    · subst r
      exact absurd h2.1 (by decide +kernel)
    · exact absurd (h2.2 _ r) (by decide +kernel)
theorem name_leaf {d : PyData} (h : drawn d = true) (n : isN (txt d) = true) : d = .str (txt d) := by
  rcases drawn_cases h with ⟨c, rfl, _⟩ | ⟨c, ps, rfl, _, _, _⟩
  · rw [txt_str]
  · refine absurd rfl (isN_free n 40 ?_)
    have e : (txt (.tuple (.str c :: ps))).cps.toList = _ := tx_node c ps
    rw [e]
    simp
theorem sign_lt {c : Nat} (h : signOk c = true) : c < 0x110000 := by
  simp only [signOk, decide_eq_true_eq] at h
  omega
theorem thoseL_len {f : Str → Bool} {ks : List (Str × Int)} {ds : List PyData} {ys : List Str} (h : ThoseL f ds ys) (ok : OkR ks ds) : ys.length ≤ 10 ∧ ∀ y ∈ ys, y ∈ LV := by
  have m : ∀ y ∈ ys, y ∈ LV := fun y hy => by
    have := (ok.pieces _ ((h.mem y).mp hy).1).1
    simpa [drawn] using this
  exact ⟨len_of_sub (m := LV) (lts_nodup h.asc) m, m⟩
section
variable {P : Program} {w : World} {K : PySem.W.Frag} {mg : Str → Option Value} {base : Heap}
theorem scLRight : FnScope nLRight pRight (defScope sLRight) := ⟨rfl, rfl, rfl, by decide +kernel, rfl, by decide +kernel, by decide +kernel⟩
theorem ok_lRight {f CB CR fLot fTxt fLN fPut fIs fRep fRen : Addr} {fd dLot dTxt dLN dPut dIs dRep dRen : FuncData} (F : Fun K "_law_right" "_law_right" sLRight f fd) (T : TxtLR K mg CR fLot fTxt fLN fPut fIs fRep fRen)
    (GLot : FnOk P w K mg base CX0 13 fLot dLot ["_law_it"] (spLLot K 12)) (bLot : Binds K dLot ["_law_it"] [])
    (GTxt : FnOk P w K mg base CX0 13 fTxt dTxt ["_law_it"] (spLText K 12)) (bTxt : Binds K dTxt ["_law_it"] [])
    (GLN : FnOk P w K mg base CX0 1 fLN dLN ["_law_it"] (spLIs isN)) (bLN : Binds K dLN ["_law_it"] [])
    (GPut : FnOk P w K mg base CX0 13 fPut dPut ["_law_it", "_law_others"] (spLPut K 12)) (bPut : Binds K dPut ["_law_it", "_law_others"] [])
    (GIs : FnG P w K mg base 2 fIs dIs ["_law_near", "_law_code", "_law_it"] (spLawIs K CB CR)) (bIs : Binds K dIs ["_law_near", "_law_code", "_law_it"] [])
    (GRep : FnOk P w K mg base CX0 7 fRep dRep ["self", "name", "thing"] (spRRepl K CB CR)) (bRep : Binds K dRep ["self", "name", "thing"] []) (kRep : ∀ (s : Shared) (a u v : Value), BindsTo s dRep ⟨[a], [(PySem.Str.ofString "thing", u), (PySem.Str.ofString "name", v)]⟩ ((["self", "name", "thing"] : List Str).zip [a, v, u]))
    (GRen : FnOk P w K mg base CX0 7 fRen dRen ["self", "pairs"] (spRRen K CB CR)) (bRen : Binds K dRen ["self", "pairs"] []) (kRen : ∀ (s : Shared) (a u : Value), BindsTo s dRen ⟨[a], [(PySem.Str.ofString "pairs", u)]⟩ ((["self", "pairs"] : List Str).zip [a, u])) :
    FnG P w K mg base 14 f fd pRight (spLRight K CB CR) := by
  refine fnG_of F scLRight (fun vs H Q E h => ?_) (fun cdv A outer s H vs Q E hr hgd h => ?_)
  · obtain ⟨_, _, _, _, _, _, _, _, _, _, _, _, _, rfl, _⟩ := h
    rfl
  · obtain ⟨r, c, t, wy, u, n, e, ks, os, ws, ds, ps, ren, rfl, R, B, ht, hd, l6, m60, dep, he, er, ef, se, ed, hwy, hps, rl, k⟩ := h
    have hr1 : Room 1 _ := hr.mono (by decide)
    have hr2 : Room 2 _ := hr.mono (by decide)
    have hr7 : Room 7 _ := hr.mono (by decide)
    have hu := hu_of hr
    have hun : (A.deeper (envOfC "_law_right" (defScope sLRight) s.heap.objs.size f cdv)).units + 30 + 20 < cLine := by
      have := hr.un
      omega
    have line : sizeLine = 16777216 := sizeLine_eq
    refine ⟨_, pss_cons (ps_set (i := 6) scLRight.nd rfl (.inl rfl) (pe_callB (cr_sumJ rfl) (by rfl) T.sum (by decide +kernel) (pa_cons (pe_lc (own := [("_law_unit", 7)]) (g := gName 7) (tt := tYes) rfl scLRight.nd (pi_tup (pv 2))
        (blkOk_by (own := [("_law_unit", 7)]) (N := nLRight) (sc := defScope sLRight) (by decide +kernel))
        (fun _ _ _ _ _ => pg_name (i := 7) scLRight.nd rfl (Or.inl rfl)) (fun _ _ _ _ _ => pts_nil) (fun _ _ _ _ _ => pe_call GLot hr rfl T.lot.g T.lot.k bLot .nil pass0 (pa_cons (pv 7) pa_nil))) (pa_cons (pe_lst pa_nil) pa_nil))))
      (pss_cons (ps_set (i := 8) scLRight.nd rfl (.inr rfl) (pe_callTy (call_dictP rfl) (by rfl) T.dict (by decide +kernel) (pa_cons (pe_lc (own := [("_law_unit", 7)]) (g := gName 7) (tt := tYes) rfl scLRight.nd (pi_list (pv 6))
        (blkOk_by (own := [("_law_unit", 7)]) (N := nLRight) (sc := defScope sLRight) (by decide +kernel))
        (fun _ _ _ _ _ => pg_name (i := 7) scLRight.nd rfl (Or.inl rfl)) (fun _ _ _ _ _ => pts_nil) (fun _ _ _ _ _ => pe_tup (pa_cons (pe_call GTxt hr rfl T.txt.g T.txt.k bTxt .nil pass0 (pa_cons (pv 7) pa_nil)) (pa_cons (pv 7) pa_nil)))) pa_nil)))
      (pss_cons (ps_setLc (i := 9) (own := [("_law_unit", 7)]) (g := gName 7) rfl scLRight.nd rfl rfl (sw_true rfl rfl rfl (by decide +kernel)) (pi_list (pe_callB cr_sortedS (by rfl) T.sorted (by decide +kernel) (pa_cons (pe_callTy (call_listD rfl) (by rfl) T.list (by decide +kernel) (pa_cons (pv 8) pa_nil)) pa_nil)))
        (blkOk_by (own := [("_law_unit", 7)]) (N := nLRight) (sc := defScope sLRight) (by decide +kernel))
        (fun _ _ _ _ _ => pg_name (i := 7) scLRight.nd rfl (Or.inl rfl)) (fun _ _ _ _ _ => pts_one (pt_val (pe_call GLN hr1 rfl T.ln.g T.ln.k bLN .nil pass0 (pa_cons (pv 7) pa_nil)))) (fun _ _ _ _ _ => pv 7))
      (pss_cons (ps_set (i := 10) scLRight.nd rfl (.inl rfl) (pe_callB (call_reprQ (m := 30) hgd hun) (by rfl) T.repr (by decide +kernel) (pa_cons (pe_lst (pa_cons (pe_fld (pv 0) rfl) (pa_cons (pe_fld (pv 0) rfl) (pa_cons (pe_fld (pv 0) rfl) pa_nil)))) pa_nil)))
      (pss_cons (ps_if (pt_cmpR op_ne (pv 10) (pe_callB (call_reprQ (m := 30) hgd hun) (by rfl) T.repr (by decide +kernel) (pa_cons (pe_lst (pa_cons (pe_callTy call_tuple_of (by rfl) T.tuple (by decide +kernel) (pa_cons (pe_lc (own := [("_law_page", 11)]) (g := gName 11) (tt := tYes) rfl scLRight.nd (pi_list (pe_callB cr_sortedS (by rfl) T.sorted (by decide +kernel) (pa_cons (pe_callTy (call_listD rfl) (by rfl) T.list (by decide +kernel) (pa_cons (pv 8) pa_nil)) pa_nil)))
        (blkOk_by (own := [("_law_page", 11)]) (N := nLRight) (sc := defScope sLRight) (by decide +kernel))
        (fun _ _ _ _ _ => pg_name (i := 11) scLRight.nd rfl (Or.inl rfl)) (fun _ _ _ _ _ => pts_nil) (fun _ _ _ _ _ => pe_dget hu (pv 8) (pv 11) (fun _ _ => rfl))) pa_nil)) (pa_cons (pe_callTy call_tuple_of (by rfl) T.tuple (by decide +kernel) (pa_cons (pv 9) pa_nil)) (pa_cons (pe_fld (pv 0) rfl) pa_nil)))) pa_nil)) (nomark _)) (pss_one (ps_ret pe_bl)) pss_nil)
      (pss_cons (ps_set (i := 12) scLRight.nd rfl (.inl rfl) (pe_callTy call_tuple_of (by rfl) T.tuple (by decide +kernel) (pa_cons (pe_lc (own := [("_law_unit", 7)]) (g := gName 7) (tt := tYes) rfl scLRight.nd (pi_tup (pv 2))
        (blkOk_by (own := [("_law_unit", 7)]) (N := nLRight) (sc := defScope sLRight) (by decide +kernel))
        (fun _ _ _ _ _ => pg_name (i := 7) scLRight.nd rfl (Or.inl rfl)) (fun _ _ _ _ _ => pts_nil) (fun _ _ _ _ _ => pe_call GPut hr rfl T.put.g T.put.k bPut .nil pass0 (pa_cons (pv 7) (pa_cons (pe_disp (pps_cons (pv 3) (pv 4) pps_nil) (by rfl) (by rfl) (by intro z; cases z) (by decide)) pa_nil)))) pa_nil)))
      (pss_cons (ps_for PassesOwn.never rfl (pi_tup (pe_tup (pa_cons (pe_meth (pv 0) T.cl T.mRep GRep hr7 bRep .nil pass0 (pa_cons (pv 3) (pa_cons (pv 4) pa_nil))) (pa_cons (pe_methK2 (k1 := PySem.Str.ofString "thing") (k2 := PySem.Str.ofString "name") (pv 0) T.cl T.mRep GRep hr7 rfl kRep (pk_cons (pv 4) (pk_cons (pv 3) pk_nil))) pa_nil)))) (pg_name (i := 13) scLRight.nd rfl (.inl rfl))
        (pss_one (ps_if (pt_not (pt_val (pe_callG GIs hr2 hgd rfl T.is.g T.is.k bIs (pa_cons (pv 13) (pa_cons (pv 1) (pa_cons (pv 12) pa_nil)))))) (pss_one (ps_ret pe_bl)) pss_nil)))
      (pss_cons (ps_set (i := 12) scLRight.nd rfl (.inl rfl) (pe_callTy call_tuple_of (by rfl) T.tuple (by decide +kernel) (pa_cons (pe_lc (own := [("_law_unit", 7)]) (g := gName 7) (tt := tYes) rfl scLRight.nd (pi_tup (pv 2))
        (blkOk_by (own := [("_law_unit", 7)]) (N := nLRight) (sc := defScope sLRight) (by decide +kernel))
        (fun _ _ _ _ _ => pg_name (i := 7) scLRight.nd rfl (Or.inl rfl)) (fun _ _ _ _ _ => pts_nil) (fun _ _ _ _ _ => pe_call GPut hr rfl T.put.g T.put.k bPut .nil pass0 (pa_cons (pv 7) (pa_cons (pe_callTy (T := "dict") (r := rDictP K) (call_dictP rfl) (by rfl) T.dict (by decide +kernel) (pa_cons (pe_callTy (T := "list") (r := rListOf K) call_list_of (by rfl) T.list (by decide +kernel) (pa_cons (pv 5) pa_nil)) pa_nil)) pa_nil)))) pa_nil)))
      (pss_cons (ps_for PassesOwn.never rfl (pi_tup (pe_tup (pa_cons (pe_meth (pv 0) T.cl T.mRen GRen hr7 bRen .nil pass0 (pa_cons (pv 5) pa_nil)) (pa_cons (pe_methK1 (k1 := PySem.Str.ofString "pairs") (pv 0) T.cl T.mRen GRen hr7 rfl kRen (pk_cons (pv 5) pk_nil)) pa_nil)))) (pg_name (i := 13) scLRight.nd rfl (.inl rfl))
        (pss_one (ps_if (pt_not (pt_val (pe_callG GIs hr2 hgd rfl T.is.g T.is.k bIs (pa_cons (pv 13) (pa_cons (pv 1) (pa_cons (pv 12) pa_nil)))))) (pss_one (ps_ret pe_bl)) pss_nil)))
      (pss_one (ps_ret (pe_callG GIs hr2 hgd rfl T.is.g T.is.k bIs (pa_cons (pv 0) (pa_cons (pv 1) (pa_cons (pv 2) pa_nil)))))))))))))), ?_⟩
    have Pw : ∀ p ∈ ds.flatMap lot, drawn p = true ∧ sz p ≤ 4000 := R.ok.pieces
    have Pd : ∀ p ∈ ds.flatMap lot, PyData.depth p ≤ 9 := fun p hp => by
      obtain ⟨d, hd1, hp1⟩ := List.mem_flatMap.mp hp
      exact Nat.le_trans (drawn_lot _ d (Nat.le_refl _) (R.ok.each d hd1).dr p hp1).2.2 (dep d hd1)
    have hw : ∀ p ∈ ds.flatMap lot, thW p = true ∧ PyData.depth p ≤ 12 ∧ (txt p).length ≤ 1000000 ∧ sz p ≤ 4000 := fun p hp => by
      obtain ⟨a1, a2⟩ := Pw p hp
      have := drawn_txt _ p (Nat.le_refl _) a1
      exact ⟨drawn_thing _ p (Nat.le_refl _) a1, Nat.le_trans (Pd p hp) (by omega), by omega, a2⟩
    have thd0 : ∀ d ∈ ds, thing d = true := fun d h1 => drawn_th (R.ok.each d h1).dr
    have wl := dps_len hd
    refine ⟨_, rfl, t, rfl, ⟨_, ht⟩, fun D hD => ?_⟩
    refine lc_tup (K := K) (a := t) (xs := ws) (fun i H' => ∃ (qs : List Addr) (xss : List (List V)), H' D = some (.lst (qs.map V.ref)) ∧ Paired (fun q xs => q ≠ D ∧ H' q = some (.lst xs)) qs xss ∧ DpAll K H' xss.flatten ((ds.take i).flatMap lot) ∧ qs.length = i ∧ Same H H')
      ⟨[], [], upd_same, .nil, .nil, rfl, same_new same_rfl hD⟩ (fun i H' _ ⟨_, _, _, _, _, _, z⟩ => kt_same z _ _ ht) ?_ ?_
    · rintro i y H' hi ⟨qs, xss, eD, pr, dp, ql, sm⟩
      have il : i < ws.length := (List.getElem?_eq_some_iff.mp hi).1
      have hx : ds[i]? = some ds[i] := List.getElem?_eq_getElem (by omega)
      obtain ⟨y', hy', dy⟩ := dps_at hd hx
      rw [hi] at hy'
      cases hy'
      generalize ds[i] = d at hx dy
      have mx := List.mem_of_getElem? hx
      have tk : ds.take (i + 1) = ds.take i ++ [d] := by rw [List.take_add_one, hx]; rfl
      have ok := R.ok.each d mx
      refine ⟨rfl, ?_⟩
      refine yes_if ?_
      refine ⟨_, rfl, y, d, rfl, dp_same sm d y dy, thd0 d mx, Nat.le_trans (dep d mx) (by omega), R.ok.szs mx, fun q us H2 s3 nq eq du => ?_⟩
      have eD2 := s3 _ _ eD
      have qD : q ≠ D := fun z => by rw [z, eD] at nq; cases nq
      refine ⟨_, eD2, by rw [List.length_map]; omega, qs ++ [q], xss ++ [us], by rw [upd_same, List.map_append]; rfl, ?_, ?_, by rw [List.length_append, ql]; rfl, fun b o eb => (upd_ne (ne_of_none eb hD)).trans (s3 _ _ (sm _ _ eb))⟩
      · exact (Paired.mono (fun q' xs z => ⟨z.1, (upd_ne z.1).trans (s3 _ _ z.2)⟩) pr).snoc ⟨qD, (upd_ne qD).trans eq⟩
      · rw [tk, List.flatMap_append, List.flatten_append]
        have kt : KT K H' (upd H2 D (.lst (qs.map V.ref ++ [V.ref q]))) := (kt_same s3).tr (kt_lst eD2)
        have th1 : thingAll ((ds.take i).flatMap lot) = true := thingAll_iff.mpr fun z hz => by
          obtain ⟨d1, h1, h2⟩ := List.mem_flatMap.mp hz
          exact drawn_th (drawn_lot _ d1 (Nat.le_refl _) (R.ok.each d1 (List.mem_of_mem_take h1)).dr z h2).1
        have th2 : thingAll ([d].flatMap lot) = true := thingAll_iff.mpr fun z hz => by
          rw [List.flatMap_singleton] at hz
          exact drawn_th (drawn_lot _ d (Nat.le_refl _) ok.dr z hz).1
        refine dps_app (ths_kt kt _ _ th1 dp) (ths_kt (kt_lst eD2) _ _ th2 ?_)
        rw [List.flatMap_singleton]
        simpa using du
    rintro H0 ⟨qs, xss, eD, pr, dp, ql, s0⟩
    rw [wl, List.take_of_length_le (Nat.le_refl _)] at dp
    have ul0 := dps_len dp
    refine ⟨Nat.zero_le _, fun b hb => ?_⟩
    have s0b : Same H0 (upd H0 b (.lst [])) := same_new same_rfl hb
    refine ⟨D, b, qs, xss, rfl, SqL.of (s0b _ _ eD), upd_same, Paired.mono (fun q xs z => s0b _ _ z.2) pr, by omega, fun L H1 s1 eL => ?_⟩
    have dlot := dps_same (same_tr s0b s1) _ _ dp
    have s01 := same_tr s0 (same_tr s0b s1)
    generalize xss.flatten = us at eL dlot ul0
    clear pr dp eD hb
    have thd : ∀ z ∈ ds.flatMap lot, thing z = true := fun z hz => thW_thing _ z (Nat.le_refl _) (hw z hz).1
    have thA : thingAll (ds.flatMap lot) = true := thingAll_iff.mpr thd
    generalize hPs : ds.flatMap lot = Ps at dlot ul0 m60 Pw Pd hw thd thA
    -- the dict
    refine ⟨_, rfl, L, rfl, ⟨_, SqL.of eL⟩, fun D hD => ?_⟩
    refine lc_list (K := K) (a := L) (xs := us) (fun i H' => ∃ ps : List Addr, H' D = some (.lst (ps.map V.ref)) ∧ Paired (fun p (kv : Key × V) => SqT K H' p [kV kv.1, kv.2]) ps (((Ps.map fun d => (Sum.inr (txt d) : Key)).zip us).take i) ∧ Same H1 H')
      ⟨[], upd_same, .nil, same_new same_rfl hD⟩ (fun i H' _ ⟨_, _, _, z⟩ => SqL.of (z _ _ eL)) ?_ ?_
    · rintro i y H' hi ⟨ps, eD, pr, sm⟩
      have il : i < us.length := (List.getElem?_eq_some_iff.mp hi).1
      have hx : Ps[i]? = some Ps[i] := List.getElem?_eq_getElem (by omega)
      obtain ⟨y', hy', dy⟩ := dps_at dlot hx
      rw [hi] at hy'
      cases hy'
      generalize Ps[i] = x at hx dy
      have mx := List.mem_of_getElem? hx
      obtain ⟨w1, w2, w3, w4⟩ := hw x mx
      have pl := pr.length
      rw [List.length_take] at pl
      refine ⟨rfl, ?_⟩
      refine yes_if ?_
      refine ⟨_, rfl, y, x, rfl, th_kt (kt_same sm) x y (thd x mx) dy, thd x mx, w2, w3, w4, fun H2 s3 => ?_⟩
      refine ⟨_, rfl, (by show 2 ≤ sizeLine; omega), fun t ht => ?_⟩
      have s4 : Same H2 (upd H2 t (.tup [.str (txt x), y])) := same_new same_rfl ht
      have eD2 := s4 _ _ (s3 _ _ eD)
      refine ⟨_, eD2, by rw [List.length_map]; omega, ps ++ [t], by rw [upd_same, List.map_append]; rfl, ?_, ?_⟩
      · have kt : KT K H' (upd (upd H2 t (.tup [.str (txt x), y])) D (.lst (ps.map V.ref ++ [V.ref t]))) := (kt_same (same_tr s3 s4)).tr (kt_lst eD2)
        have tk : ((Ps.map fun d => (Sum.inr (txt d) : Key)).zip us).take (i + 1) = ((Ps.map fun d => (Sum.inr (txt d) : Key)).zip us).take i ++ [(Sum.inr (txt x), y)] := by
          rw [List.take_add_one]
          have : ((Ps.map fun d => (Sum.inr (txt d) : Key)).zip us)[i]? = some (Sum.inr (txt x), y) := by
            rw [List.getElem?_zip_eq_some, List.getElem?_map, hx]
            exact ⟨rfl, hi⟩
          rw [this]
          rfl
        rw [tk]
        exact (Paired.mono (fun p kv z => kt _ _ z) pr).snoc (kt_lst eD2 _ _ (SqT.of upd_same))
      · exact fun b o eb => (upd_ne (ne_of_none eb hD)).trans (s4 _ _ (s3 _ _ (sm _ _ eb)))
    rintro H2 ⟨ps', eD, pr, s12⟩
    have zl : ((Ps.map fun d => (Sum.inr (txt d) : Key)).zip us).length = us.length := by rw [List.length_zip, List.length_map]; omega
    rw [List.take_of_length_le (by omega)] at pr
    refine ⟨D, ps', _, rfl, SqL.of eD, pr, fun q hq => ?_⟩
    obtain ⟨nd, val, mem⟩ := merge_all (R := fun k v => ∃ d ∈ Ps, k = Sum.inr (txt d) ∧ Dp K H1 v d) (l := (Ps.map fun d => (Sum.inr (txt d) : Key)).zip us) (kvs := []) (by simp) (fun k v h => nomatch h) (mem_zip_dp dlot)
    have memk : ∀ k, k ∈ (mergeK [] ((Ps.map fun d => (Sum.inr (txt d) : Key)).zip us)).map (·.1) ↔ ∃ d ∈ Ps, k = Sum.inr (txt d) := fun k => by
      rw [mem k, List.map_fst_zip (by rw [List.length_map]; omega)]
      simp only [List.map_nil, List.not_mem_nil, false_or, List.mem_map]
      exact ⟨fun ⟨d, hd, e⟩ => ⟨d, hd, e.symm⟩, fun ⟨d, hd, e⟩ => ⟨d, hd, e.symm⟩⟩
    have len := length_mergeK ((Ps.map fun d => (Sum.inr (txt d) : Key)).zip us) []
    rw [List.length_zip, List.length_map] at len
    generalize mergeK [] ((Ps.map fun d => (Sum.inr (txt d) : Key)).zip us) = kvs at nd val memk len
    have s23 : Same H2 (upd H2 q (.dK kvs)) := same_new same_rfl hq
    have eq3 : upd H2 q (.dK kvs) q = some (.dK kvs) := upd_same
    show Ends.nx _ _ (upd H2 q (.dK kvs))
    generalize upd H2 q (.dK kvs) = H3 at s23 eq3
    have s03 : Same H H3 := same_tr s01 (same_tr s12 s23)
    have s13 : Same H1 H3 := same_tr s12 s23
    have keys : kvs.map (·.1) = (kvs.map fun kv => keyS kv.1).map (Sum.inr : Str → Key) := by
      rw [List.map_map]
      refine List.map_congr_left fun kv hkv => ?_
      obtain ⟨d, _, e⟩ := (memk kv.1).mp (List.mem_map_of_mem hkv)
      show kv.1 = Sum.inr (keyS kv.1)
      rw [e]
      rfl
    have kvE : (kvs.map fun kv => kV kv.1) = (kvs.map fun kv => keyS kv.1).map V.str := by
      have := congrArg (List.map kV) keys
      rw [List.map_map, List.map_map] at this
      exact this
    have kvl : (kvs.map fun kv => keyS kv.1).length < 64 := by rw [List.length_map]; simp only [List.length_nil] at len; omega
    have factY : ∀ ys : List Str, ys.Perm (kvs.map fun kv => keyS kv.1) → (∀ y, y ∈ ys ↔ ∃ d ∈ Ps, txt d = y) ∧ ys.Nodup ∧ ys.length ≤ 63 := fun ys perm => by
      refine ⟨fun y => ?_, ?_, ?_⟩
      · rw [perm.mem_iff]
        have z : y ∈ (kvs.map fun kv => keyS kv.1) ↔ (Sum.inr y : Key) ∈ kvs.map (·.1) := by
          rw [keys]
          simp
        rw [z, memk]
        exact ⟨fun ⟨d, hd, e⟩ => ⟨d, hd, (Sum.inr.inj e).symm⟩, fun ⟨d, hd, e⟩ => ⟨d, hd, by rw [e]⟩⟩
      · rw [perm.nodup_iff]
        have : ((kvs.map fun kv => keyS kv.1).map (Sum.inr : Str → Key)).Nodup := by rw [← keys]; exact nd
        exact List.Pairwise.of_map (S := (· ≠ ·)) _ (fun a b h e => h (by rw [e])) this
      · rw [perm.length_eq]
        omega
    -- the labels
    refine ⟨_, rfl, q, kvs, rfl, Rd.of eq3, fun g hg => ?_⟩
    rw [kvE]
    have s34 : Same H3 (upd H3 g (.lst ((kvs.map fun kv => keyS kv.1).map V.str))) := same_new same_rfl hg
    have eg : upd H3 g (.lst ((kvs.map fun kv => keyS kv.1).map V.str)) g = some (.lst ((kvs.map fun kv => keyS kv.1).map V.str)) := upd_same
    refine ⟨g, kvs.map fun kv => keyS kv.1, rfl, SqL.of eg, by omega, fun ys p perm srt hp => ?_⟩
    generalize upd H3 g (.lst ((kvs.map fun kv => keyS kv.1).map V.str)) = H4 at s34 eg hp
    have s45 : Same H4 (upd H4 p (.lst (ys.map V.str))) := same_new same_rfl hp
    have ep : upd H4 p (.lst (ys.map V.str)) p = some (.lst (ys.map V.str)) := upd_same
    obtain ⟨ymem, ynd, yl⟩ := factY ys perm
    refine ⟨p, rfl, ⟨_, SqL.of ep⟩, fun D2 hD2 => ?_⟩
    generalize upd H4 p (.lst (ys.map V.str)) = H5 at s45 ep hD2
    refine lc_list (K := K) (a := p) (xs := ys.map V.str) (fun i H' => H' D2 = some (.lst (((ys.take i).filter isN).map V.str)) ∧ Same H5 H') ⟨by simpa using upd_same, same_new same_rfl hD2⟩ (fun i H' _ z => SqL.of (z.2 _ _ ep)) ?_ ?_
    · rintro i y H' hi ⟨eDD, sm1⟩
      rw [List.getElem?_map] at hi
      obtain ⟨c, hc, rfl⟩ := Option.map_eq_some_iff.mp hi
      obtain ⟨d1, hd1, e1⟩ := (ymem c).mp (List.mem_of_getElem? hc)
      have c1 : c.length ≤ sizeLine := by
        have := (hw d1 hd1).2.2.1
        rw [e1] at this
        omega
      have c2 : ∀ z ∈ c.cps.toList, z < 0x110000 := fun z hz => by
        have a := drawn_sign _ d1 (Nat.le_refl _) (Pw d1 hd1).1
        rw [e1] at a
        exact sign_lt (List.all_eq_true.mp a z hz)
      have tk : ys.take (i + 1) = ys.take i ++ [c] := by rw [List.take_add_one, hc]; rfl
      have room : (((ys.take i).filter isN).map V.str).length < sizeLine := by
        have := List.length_filter_le isN (ys.take i)
        rw [List.length_take] at this
        rw [List.length_map]
        omega
      refine ⟨rfl, _, rfl, c, rfl, c1, c2, fun H2' s2 => ⟨_, rfl, ite2 (fun hb => ?_) (fun hb => ?_)⟩⟩
      · refine ⟨_, rfl, _, s2 _ _ eDD, room, ?_, fun b1 o1 e1 => (upd_ne (ne_of_none e1 hD2)).trans (s2 _ _ (sm1 _ _ e1))⟩
        rw [upd_same, tk, List.filter_append, List.map_append]
        simp [hb]
      · refine ⟨?_, same_tr sm1 s2⟩
        rw [s2 _ _ eDD, tk, List.filter_append]
        simp [hb]
    rintro H6 ⟨eDD, s56⟩
    rw [List.length_map, List.take_of_length_le (Nat.le_refl _)] at eDD
    have s36 : Same H3 H6 := same_tr s34 (same_tr s45 s56)
    have s06 : Same H H6 := same_tr s03 s36
    -- what is told
    obtain ⟨dx, b1, t1, n1, p1, ws1, ps1, pds1, ys1, h1, h2, h3, h4, h5, h6, h7, h8, h9⟩ := id R.ex
    have wq : ∀ z ∈ Ps, thW z = true := fun z hz => (hw z hz).1
    rw [hPs] at h9
    have pl1 : pds1.length ≤ 60 := Nat.le_trans (asc_len h9) m60
    have sp1 : ∀ z ∈ Ps, sz z ≤ 60 := fun z hz => by
      rw [← hPs] at hz
      obtain ⟨d, hd1, hp1⟩ := List.mem_flatMap.mp hz
      have a := (drawn_lot _ d (Nat.le_refl _) (R.ok.each d hd1).dr z hp1).2.1
      have b : sz d ≤ (ds.flatMap lot).length := flat_ge hd1
      rw [hPs] at b
      omega
    obtain ⟨y1l, y1m⟩ := thoseL_len h8 R.ok
    have shT : Shows 1000000 12 (.list [.tuple pds1, .tuple (ys1.map PyData.str), .tuple pds1]) := by
      have a : Shows 120000 11 (.tuple pds1) := (shows_tuple (n := 1800) (l := 10) fun x hx => by
        have mx := (h9.mem x).mp hx
        exact (shows_thing (Pw x mx).1 (Nat.le_trans (Pd x mx) (by omega))).up (by have := sp1 x mx; omega) (Nat.le_refl _)).up (by omega) (Nat.le_refl _)
      refine (shows_list (n := 120000) (l := 11) fun x hx => ?_).up (by show 3 * 120000 + 2 * 3 + 3 ≤ 1000000; decide) (Nat.le_refl _)
      simp only [List.mem_cons, List.not_mem_nil, or_false] at hx
      rcases hx with rfl | rfl | rfl
      · exact a
      · exact (shows_lvs y1l y1m).up (by omega) (by omega)
      · exact a
    have thP : thingAll pds1 = true := thingAll_iff.mpr fun z hz => thd z ((h9.mem z).mp hz)
    refine ⟨_, rfl, r, CR, dx, _, _, rfl, s06 _ _ h1, T.cl, T.nP, rfl, _, rfl, r, CR, dx, _, _, rfl, s06 _ _ h1, T.cl, T.nN, rfl, _, rfl, r, CR, dx, _, _, rfl, s06 _ _ h1, T.cl, T.nP, rfl, (by show 3 ≤ sizeLine; omega), fun p4 hp4 => ?_⟩
    have s67 : Same H6 (upd H6 p4 (.lst [.ref p1, .ref n1, .ref p1])) := same_new same_rfl hp4
    have s07 := same_tr s06 s67
    have dP : ∀ {G : Hp}, Same H G → Dp K G (.ref p1) (.tuple pds1) := fun sG => .tup (SqT.of (sG _ _ h6)) (dps_same sG _ _ h7)
    have dN : ∀ {G : Hp}, Same H G → Dp K G (.ref n1) (.tuple (ys1.map PyData.str)) := fun sG => .tup (SqT.of (sG _ _ h5)) (strs_dp _)
    refine ⟨p4, [.ref p1, .ref n1, .ref p1], [.tuple pds1, .tuple (ys1.map PyData.str), .tuple pds1], rfl, .cons (dP s07) (.cons (dN s07) (.cons (dP s07) .nil)), .inl ⟨SqL.of upd_same, shT.up (by omega) (by omega), ?_⟩⟩
    show Ends.nx _ _ (upd H6 p4 (.lst [.ref p1, .ref n1, .ref p1]))
    generalize upd H6 p4 (.lst [.ref p1, .ref n1, .ref p1]) = H7 at s67 s07
    have eq7 := s67 _ _ (s36 _ _ eq3)
    have eD7 := s67 _ _ eDD
    have s37 : Same H3 H7 := same_tr s36 s67
    -- as the law sees it
    refine ⟨_, rfl, _, rfl, q, kvs, rfl, Rd.of eq7, fun g2 hg2 => ?_⟩
    rw [kvE]
    have s78 : Same H7 (upd H7 g2 (.lst ((kvs.map fun kv => keyS kv.1).map V.str))) := same_new same_rfl hg2
    have eg2 : upd H7 g2 (.lst ((kvs.map fun kv => keyS kv.1).map V.str)) g2 = some (.lst ((kvs.map fun kv => keyS kv.1).map V.str)) := upd_same
    refine ⟨g2, kvs.map fun kv => keyS kv.1, rfl, SqL.of eg2, by omega, fun ys2 p2 perm2 srt2 hp2 => ?_⟩
    generalize upd H7 g2 (.lst ((kvs.map fun kv => keyS kv.1).map V.str)) = H8 at s78 eg2 hp2
    have s89 : Same H8 (upd H8 p2 (.lst (ys2.map V.str))) := same_new same_rfl hp2
    have ep2 : upd H8 p2 (.lst (ys2.map V.str)) p2 = some (.lst (ys2.map V.str)) := upd_same
    obtain ⟨ymem2, ynd2, yl2⟩ := factY ys2 perm2
    refine ⟨p2, rfl, ⟨_, SqL.of ep2⟩, fun D3 hD3 => ?_⟩
    generalize upd H8 p2 (.lst (ys2.map V.str)) = H9 at s89 ep2 hD3
    have s79 : Same H7 H9 := same_tr s78 s89
    have eq9 := s79 _ _ eq7
    have s19 : Same H1 H9 := same_tr s13 (same_tr s37 s79)
    refine lc_list (K := K) (a := p2) (xs := ys2.map V.str) (fun i H' => ∃ (ws : List V) (ds : List PyData), H' D3 = some (.lst ws) ∧ DpAll K H' ws ds ∧ ds.map txt = ys2.take i ∧ (∀ d ∈ ds, d ∈ Ps) ∧ Same H9 H')
      ⟨[], [], upd_same, .nil, by simp, fun _ z => (List.not_mem_nil z).elim, same_new same_rfl hD3⟩ (fun i H' _ ⟨_, _, _, _, _, _, z⟩ => SqL.of (z _ _ ep2)) ?_ ?_
    · rintro i y H' hi ⟨ws, ds, eD, dp, et, dm, sm⟩
      rw [List.getElem?_map] at hi
      obtain ⟨x, hx, rfl⟩ := Option.map_eq_some_iff.mp hi
      obtain ⟨d0, hd0, e0⟩ := (ymem2 x).mp (List.mem_of_getElem? hx)
      have ik : (Sum.inr x : Key) ∈ kvs.map (·.1) := (memk _).mpr ⟨d0, hd0, by rw [e0]⟩
      obtain ⟨v, hv⟩ := val_some ik
      obtain ⟨d, hdP, ed, dv⟩ := val _ _ hv
      have ed' : txt d = x := (Sum.inr.inj ed).symm
      refine ⟨rfl, ?_⟩
      refine yes_if ?_
      have il : i < ys2.length := (List.getElem?_eq_some_iff.mp hx).1
      have wl : ws.length = i := by
        rw [dps_len dp]
        have := congrArg List.length et
        rw [List.length_map, List.length_take] at this
        omega
      refine ⟨_, rfl, _, rfl, q, v, rfl, .inl ⟨kvs, Sum.inr x, Rd.of (sm _ _ eq9), rfl, hv.symm⟩, ws, eD, by omega, ws ++ [v], ds ++ [d], upd_same, ?_, ?_, ?_, fun b1 o1 e1 => (upd_ne (ne_of_none e1 hD3)).trans (sm _ _ e1)⟩
      · have kt1 : KT K H' (upd H' D3 (.lst (ws ++ [v]))) := kt_lst eD
        exact dps_app (ths_kt kt1 ds ws (thingAll_iff.mpr fun z hz => thd z (dm z hz)) dp) (.cons (th_kt (kt_same (same_tr s19 sm)) d v (thd d hdP) dv |> th_kt kt1 d v (thd d hdP)) .nil)
      · rw [List.map_append, et, List.take_add_one, hx, List.map_cons, ed']
        rfl
      · intro z hz
        rcases List.mem_append.mp hz with hz | hz
        · exact dm z hz
        · rw [List.mem_singleton.mp hz]
          exact hdP
    rintro H10 ⟨ws3, ds3, eD3, dp3, et3, dm3, s9x⟩
    rw [List.length_map, List.take_of_length_le (Nat.le_refl _)] at et3
    have asc3 : AscOf ds3 Ps := ⟨by rw [et3]; exact asc_sorted srt2 ynd2, fun d => ⟨dm3 d, fun hd1 => by
      have : txt d ∈ ds3.map txt := by
        rw [et3]
        exact (ymem2 _).mpr ⟨d, hd1, rfl⟩
      obtain ⟨d', hd', e'⟩ := List.mem_map.mp this
      rw [← txt_inj (hw d' (dm3 d' hd')).1 (hw d hd1).1 e']
      exact hd'⟩⟩
    have e3 : ds3 = pds1 := ascOf_eq asc3 h9 wq (fun _ => Iff.rfl)
    have e4 : ys.filter isN = ys1 := asc_eq ((asc_sorted srt ynd).filter _) h8.asc fun x => by
      rw [List.mem_filter, ymem, h8.mem, hPs]
      exact ⟨fun ⟨⟨d, hd1, e⟩, hn⟩ => ⟨by
        have := name_leaf (Pw d hd1).1 (by rw [e]; exact hn)
        rw [← e, ← this]
        exact hd1, hn⟩, fun ⟨a, hn⟩ => ⟨⟨_, a, txt_str x⟩, hn⟩⟩
    subst e3
    refine ⟨D3, _, rfl, .inl ⟨SqL.of eD3, fun t3 ht3 => ?_⟩⟩
    have s7x : Same H7 (upd H10 t3 (.tup ws3)) := same_new (same_tr s79 s9x) ht3
    have et3' : upd H10 t3 (.tup ws3) t3 = some (.tup ws3) := upd_same
    have dp4 := dps_same (same_new (o := .tup ws3) same_rfl ht3) _ _ dp3
    generalize upd H10 t3 (.tup ws3) = H11 at s7x et3' dp4
    refine ⟨_, rfl, D2, _, rfl, .inl ⟨SqL.of (s7x _ _ eD7), fun t4 ht4 => ?_⟩⟩
    have sx : Same H11 (upd H11 t4 (.tup ((ys.filter isN).map V.str))) := same_new same_rfl ht4
    have et4 : upd H11 t4 (.tup ((ys.filter isN).map V.str)) t4 = some (.tup ((ys.filter isN).map V.str)) := upd_same
    generalize upd H11 t4 (.tup ((ys.filter isN).map V.str)) = H12 at sx et4
    have s0c : Same H H12 := same_tr s07 (same_tr s7x sx)
    refine ⟨_, rfl, r, CR, dx, _, _, rfl, s0c _ _ h1, T.cl, T.nP, rfl, (by show 3 ≤ sizeLine; omega), fun p5 hp5 => ?_⟩
    have sy : Same H12 (upd H12 p5 (.lst [.ref t3, .ref t4, .ref p1])) := same_new same_rfl hp5
    have s0d := same_tr s0c sy
    refine ⟨p5, [.ref t3, .ref t4, .ref p1], [.tuple ds3, .tuple (ys1.map PyData.str), .tuple ds3], rfl, .cons (.tup (SqT.of (same_tr sx sy _ _ et3')) (dps_same (same_tr sx sy) _ _ dp4)) (.cons (.tup (SqT.of (sy _ _ et4)) (by rw [e4]; exact strs_dp _)) (.cons (dP s0d) .nil)), .inl ⟨SqL.of upd_same, shT.up (by omega) (by omega), ?_⟩⟩
    refine ⟨rfl, _, rfl, ite2 (fun z => absurd z (by simp)) (fun _ => ?_)⟩
    clear dp3 dp4 et3 eD3 et4 et3'
    generalize upd H12 p5 (.lst [.ref t3, .ref t4, .ref p1]) = G at s0d
    have valA : ∀ x : Str, valV (mergeK [] [((Sum.inr n : Key), u)]) (Sum.inr x) = if x = n then some u else none := fun x => by
      have e1 : mergeK [] [((Sum.inr n : Key), u)] = putK [] (Sum.inr n) u := rfl
      rw [e1, valV_put]
      by_cases h : x = n
      · rw [if_pos h, if_pos (congrArg _ h)]
      · rw [if_neg h, if_neg fun z => h (Sum.inr.inj z)]
        rfl
    -- A
    have pdA : ∀ d ∈ ds.map (put (subst n e)), PyData.depth d ≤ 25 := fun d hd1 => by
      obtain ⟨d0, h0, rfl⟩ := List.mem_map.mp hd1
      have a := put_depth (f := (subst n e)) (k := 2) (fun z _ => by unfold subst; split; exact ed; simp [PyData.depth]) _ d0 (Nat.le_refl _) (R.ok.each d0 h0).dr
      have b := dep d0 h0
      omega
    have thA : ∀ d ∈ ds.map (put (subst n e)), thing d = true := fun d hd1 => by
      obtain ⟨d0, h0, rfl⟩ := List.mem_map.mp hd1
      exact put_thing (subst_thing (drawn_th er)) _ d0 (Nat.le_refl _) (thd0 d0 h0)
    refine ⟨_, rfl, t, rfl, ⟨_, kt_same s0d _ _ ht⟩, fun DA hDA => ?_⟩
    refine lc_tup (K := K) (a := t) (xs := ws) (fun i H' => ∃ zs, H' DA = some (.lst zs) ∧ DpAll K H' zs ((ds.take i).map (put (subst n e))) ∧ Same G H') ⟨[], upd_same, .nil, same_new same_rfl hDA⟩ (fun i H' _ ⟨_, _, _, z⟩ => kt_same (same_tr s0d z) _ _ ht) ?_ ?_
    · rintro i y H' hi ⟨zs, eD, dy0, s2⟩
      have il : i < ws.length := (List.getElem?_eq_some_iff.mp hi).1
      have hx : ds[i]? = some ds[i] := List.getElem?_eq_getElem (by omega)
      obtain ⟨y', hy', dy⟩ := dps_at hd hx
      rw [hi] at hy'
      cases hy'
      generalize ds[i] = d at hx dy
      have mx := List.mem_of_getElem? hx
      have tk : ds.take (i + 1) = ds.take i ++ [d] := by rw [List.take_add_one, hx]; rfl
      have yl := dps_len dy0
      rw [List.length_map, List.length_take] at yl
      have s0h := same_tr s0d s2
      refine ⟨rfl, ?_⟩
      refine yes_if ?_
      refine ⟨_, rfl, fun o ho => ⟨_, rfl, _, rfl, upd_same, [(Sum.inr n, u)], rfl, (by show 1 ≤ 15; decide), ?_⟩⟩
      rw [upd_upd]
      have st : Same H' (upd H' o (.dK (mergeK [] [(Sum.inr n, u)]))) := same_new same_rfl ho
      refine ⟨y, o, _, subst n e, d, rfl, dp_same (same_tr s0h st) d y dy, thd0 d mx, Nat.le_trans (dep d mx) (by omega), R.ok.szs mx, upd_same, fun x => ?_, subst_thing (drawn_th er), fun z H2 s3 hz => ?_⟩
      · rw [valA]
        unfold subst
        by_cases h : x = n
        · rw [if_pos h, if_pos h]
          exact .inr ⟨u, rfl, dp_same (same_tr s0h st) _ _ he⟩
        · rw [if_neg h, if_neg h]
          exact .inl ⟨rfl, rfl⟩
      have s23' := same_tr st s3
      have kt : KT K H' (upd H2 DA (.lst (zs ++ [z]))) := (kt_same s23').tr (kt_lst (s23' _ _ eD))
      refine ⟨zs, s23' _ _ eD, by omega, zs ++ [z], upd_same, ?_, fun b o eb => (upd_ne (ne_of_none eb hDA)).trans (s23' _ _ (s2 _ _ eb))⟩
      rw [tk, List.map_append]
      refine dps_app (ths_kt kt _ _ (thingAll_iff.mpr fun q hq => ?_) dy0) (.cons (th_kt (kt_lst (s23' _ _ eD)) _ z (thA _ (List.mem_map_of_mem mx)) hz) .nil)
      obtain ⟨q', hq', rfl⟩ := List.mem_map.mp hq
      exact thA _ (List.mem_map_of_mem (List.mem_of_mem_take hq'))
    rintro GA ⟨zsA, eZA, dzA, sZA⟩
    rw [wl, List.take_of_length_le (Nat.le_refl _)] at dzA
    refine ⟨DA, _, rfl, .inl ⟨SqL.of eZA, fun TA hTA => ?_⟩⟩
    have sTA : Same GA (upd GA TA (.tup zsA)) := same_new same_rfl hTA
    have eTA : upd GA TA (.tup zsA) TA = some (.tup zsA) := upd_same
    have s0A := same_tr s0d (same_tr sZA sTA)
    have dzA' := dps_same sTA _ _ dzA
    show Ends.nx _ _ (upd GA TA (.tup zsA))
    generalize upd GA TA (.tup zsA) = FA at eTA s0A dzA'
    refine ⟨_, rfl, r, dx, _, rfl, s0A _ _ h1, rfl, _, rfl, _, rfl, r, u, n, e, ks, os, ds, rfl, R.same s0A, dp_same s0A _ _ he, er, ef, se, by rw [hPs]; omega, fun xA LA sLA nxA RLA => ?_⟩
    refine ⟨_, rfl, r, dx, _, rfl, (same_tr s0A sLA) _ _ h1, rfl, _, rfl, _, rfl, _, _, rfl, r, u, n, e, ks, os, ds, rfl, R.same (same_tr s0A sLA), dp_same (same_tr s0A sLA) _ _ he, er, ef, se, by rw [hPs]; omega, fun yA NA sMA nyA RMA => ?_⟩
    refine ⟨(by show 2 ≤ sizeLine; omega), fun aA haA => ?_⟩
    have sAA : Same NA (upd NA aA (.tup [.ref xA, .ref yA])) := same_new same_rfl haA
    have eAA : upd NA aA (.tup [.ref xA, .ref yA]) aA = some (.tup [.ref xA, .ref yA]) := upd_same
    refine ⟨aA, rfl, ⟨_, SqT.of eAA⟩, ?_⟩
    have sNA : Same FA (upd NA aA (.tup [.ref xA, .ref yA])) := same_tr sLA (same_tr sMA sAA)
    have rowsA : ∀ y ∈ [V.ref xA, V.ref yA], ∃ z, y = .ref z ∧ RowAt K CB CR (upd NA aA (.tup [.ref xA, .ref yA])) z ks os (ds.map (put (subst n e))) := fun y hy => by
      simp only [List.mem_cons, List.not_mem_nil, or_false] at hy
      rcases hy with rfl | rfl
      · exact ⟨_, rfl, RLA.same (same_tr sMA sAA)⟩
      · exact ⟨_, rfl, RMA.same sAA⟩
    generalize upd NA aA (.tup [.ref xA, .ref yA]) = OA at eAA sNA rowsA
    have s0OA := same_tr s0A sNA
    refine for_tup (K := K) (a := aA) (xs := [V.ref xA, V.ref yA]) (fun i σ H' => ∃ o10 o13, σ = [some (.ref r), some (.ref c), some (.ref t), some (.str n), some u, some (.ref wy), some (.ref L), none, some (.ref q), some (.ref D2), o10, none, some (.ref TA), o13] ∧ Same OA H') ⟨_, _, rfl, same_rfl⟩ (fun i σ H' _ ⟨_, _, _, z⟩ => SqT.of (z _ _ eAA)) ?_ ?_
    · rintro i y σ H' hi ⟨o10, o13, rfl, sm⟩
      obtain ⟨z, rfl, Rz⟩ := rowsA y (List.mem_of_getElem? hi)
      refine ⟨_, rfl, _, rfl, _, rfl, z, c, TA, ks, os, zsA, ds.map (put (subst n e)), rfl, Rz.same sm, B.same (same_tr s0OA sm), SqT.of (sm _ _ (sNA _ _ eTA)), dps_same (same_tr sNA sm) _ _ dzA', by rw [List.length_map]; omega, pdA, fun H2 s2 => ⟨_, rfl, ite2 (fun z => absurd z (by decide)) fun _ => ⟨_, _, rfl, same_tr sm s2⟩⟩⟩
    rintro σ WA ⟨o10A, o13A, rfl, sWA⟩
    have s0WA := same_tr s0OA sWA
    have PR := puts_ren (ks := ks) rl
    -- B
    have pdB : ∀ d ∈ ds.map (put (renS (ren.map kvS))), PyData.depth d ≤ 25 := fun d hd1 => by
      obtain ⟨d0, h0, rfl⟩ := List.mem_map.mp hd1
      have a := put_depth (f := (renS (ren.map kvS))) (k := 0) (fun z _ => by rcases ren_val rl z with ⟨_, e⟩ | ⟨y, _, _, e⟩ <;> rw [e] <;> simp [PyData.depth]) _ d0 (Nat.le_refl _) (R.ok.each d0 h0).dr
      have b := dep d0 h0
      omega
    have thB : ∀ d ∈ ds.map (put (renS (ren.map kvS))), thing d = true := fun d hd1 => by
      obtain ⟨d0, h0, rfl⟩ := List.mem_map.mp hd1
      exact put_thing PR.th _ d0 (Nat.le_refl _) (thd0 d0 h0)
    refine ⟨_, rfl, t, rfl, ⟨_, kt_same s0WA _ _ ht⟩, fun DB hDB => ?_⟩
    refine lc_tup (K := K) (a := t) (xs := ws) (fun i H' => ∃ zs, H' DB = some (.lst zs) ∧ DpAll K H' zs ((ds.take i).map (put (renS (ren.map kvS)))) ∧ Same WA H') ⟨[], upd_same, .nil, same_new same_rfl hDB⟩ (fun i H' _ ⟨_, _, _, z⟩ => kt_same (same_tr s0WA z) _ _ ht) ?_ ?_
    · rintro i y H' hi ⟨zs, eD, dy0, s2⟩
      have il : i < ws.length := (List.getElem?_eq_some_iff.mp hi).1
      have hx : ds[i]? = some ds[i] := List.getElem?_eq_getElem (by omega)
      obtain ⟨y', hy', dy⟩ := dps_at hd hx
      rw [hi] at hy'
      cases hy'
      generalize ds[i] = d at hx dy
      have mx := List.mem_of_getElem? hx
      have tk : ds.take (i + 1) = ds.take i ++ [d] := by rw [List.take_add_one, hx]; rfl
      have yl := dps_len dy0
      rw [List.length_map, List.length_take] at yl
      have s0h := same_tr s0WA s2
      refine ⟨rfl, ?_⟩
      refine yes_if ?_
      refine ⟨_, rfl, _, rfl, wy, ps.map V.ref, rfl, .inr (kt_same s0h _ _ hwy.sq), fun l hl => ?_⟩
      have sl : Same H' (upd H' l (.lst (ps.map V.ref))) := same_new same_rfl hl
      refine ⟨l, ps, ren.map kvS, rfl, SqL.of upd_same, Paired.mono (fun p kv z => kt_same (same_tr s0h sl) _ _ z) hps, fun o ho => ?_⟩
      have st : Same H' (upd (upd H' l (.lst (ps.map V.ref))) o (.dK (mergeK [] (ren.map kvS)))) := same_new sl ho
      refine ⟨y, o, _, renS (ren.map kvS), d, rfl, dp_same (same_tr s0h st) d y dy, thd0 d mx, Nat.le_trans (dep d mx) (by omega), R.ok.szs mx, upd_same, fun x => ?_, PR.th, fun z H2 s3 hz => ?_⟩
      · rcases ren_val rl x with ⟨e1, e2⟩ | ⟨y, _, e1, e2⟩
        · exact .inl ⟨e1, e2⟩
        · rw [e2]
          exact .inr ⟨_, e1, .str y⟩
      have s23' := same_tr st s3
      have kt : KT K H' (upd H2 DB (.lst (zs ++ [z]))) := (kt_same s23').tr (kt_lst (s23' _ _ eD))
      refine ⟨zs, s23' _ _ eD, by omega, zs ++ [z], upd_same, ?_, fun b o eb => (upd_ne (ne_of_none eb hDB)).trans (s23' _ _ (s2 _ _ eb))⟩
      rw [tk, List.map_append]
      refine dps_app (ths_kt kt _ _ (thingAll_iff.mpr fun q hq => ?_) dy0) (.cons (th_kt (kt_lst (s23' _ _ eD)) _ z (thB _ (List.mem_map_of_mem mx)) hz) .nil)
      obtain ⟨q', hq', rfl⟩ := List.mem_map.mp hq
      exact thB _ (List.mem_map_of_mem (List.mem_of_mem_take hq'))
    rintro GB ⟨zsB, eZB, dzB, sZB⟩
    rw [wl, List.take_of_length_le (Nat.le_refl _)] at dzB
    refine ⟨DB, _, rfl, .inl ⟨SqL.of eZB, fun TB hTB => ?_⟩⟩
    have sTB : Same GB (upd GB TB (.tup zsB)) := same_new same_rfl hTB
    have eTB : upd GB TB (.tup zsB) TB = some (.tup zsB) := upd_same
    have s0B := same_tr s0WA (same_tr sZB sTB)
    have dzB' := dps_same sTB _ _ dzB
    show Ends.nx _ _ (upd GB TB (.tup zsB))
    generalize upd GB TB (.tup zsB) = FB at eTB s0B dzB'
    refine ⟨_, rfl, r, dx, _, rfl, s0B _ _ h1, rfl, _, rfl, r, wy, ps, ren, ks, os, ds, rfl, R.same s0B, tupN_same s0B hwy, Paired.mono (fun p kv z => kt_same s0B _ _ z) hps, rl, fun xB LB sLB nxB RLB => ?_⟩
    refine ⟨_, rfl, r, dx, _, rfl, (same_tr s0B sLB) _ _ h1, rfl, _, rfl, _, rfl, r, wy, ps, ren, ks, os, ds, rfl, R.same (same_tr s0B sLB), tupN_same (same_tr s0B sLB) hwy, Paired.mono (fun p kv z => kt_same (same_tr s0B sLB) _ _ z) hps, rl, fun yB NB sMB nyB RMB => ?_⟩
    refine ⟨(by show 2 ≤ sizeLine; omega), fun aB haB => ?_⟩
    have sAB : Same NB (upd NB aB (.tup [.ref xB, .ref yB])) := same_new same_rfl haB
    have eAB : upd NB aB (.tup [.ref xB, .ref yB]) aB = some (.tup [.ref xB, .ref yB]) := upd_same
    refine ⟨aB, rfl, ⟨_, SqT.of eAB⟩, ?_⟩
    have sNB : Same FB (upd NB aB (.tup [.ref xB, .ref yB])) := same_tr sLB (same_tr sMB sAB)
    have rowsB : ∀ y ∈ [V.ref xB, V.ref yB], ∃ z, y = .ref z ∧ RowAt K CB CR (upd NB aB (.tup [.ref xB, .ref yB])) z ks os (ds.map (put (renS (ren.map kvS)))) := fun y hy => by
      simp only [List.mem_cons, List.not_mem_nil, or_false] at hy
      rcases hy with rfl | rfl
      · exact ⟨_, rfl, RLB.same (same_tr sMB sAB)⟩
      · exact ⟨_, rfl, RMB.same sAB⟩
    generalize upd NB aB (.tup [.ref xB, .ref yB]) = OB at eAB sNB rowsB
    have s0OB := same_tr s0B sNB
    refine for_tup (K := K) (a := aB) (xs := [V.ref xB, V.ref yB]) (fun i σ H' => ∃ o10 o13, σ = [some (.ref r), some (.ref c), some (.ref t), some (.str n), some u, some (.ref wy), some (.ref L), none, some (.ref q), some (.ref D2), o10, none, some (.ref TB), o13] ∧ Same OB H') ⟨_, _, rfl, same_rfl⟩ (fun i σ H' _ ⟨_, _, _, z⟩ => SqT.of (z _ _ eAB)) ?_ ?_
    · rintro i y σ H' hi ⟨o10, o13, rfl, sm⟩
      obtain ⟨z, rfl, Rz⟩ := rowsB y (List.mem_of_getElem? hi)
      refine ⟨_, rfl, _, rfl, _, rfl, z, c, TB, ks, os, zsB, ds.map (put (renS (ren.map kvS))), rfl, Rz.same sm, B.same (same_tr s0OB sm), SqT.of (sm _ _ (sNB _ _ eTB)), dps_same (same_tr sNB sm) _ _ dzB', by rw [List.length_map]; omega, pdB, fun H2 s2 => ⟨_, rfl, ite2 (fun z => absurd z (by decide)) fun _ => ⟨_, _, rfl, same_tr sm s2⟩⟩⟩
    rintro σ WB ⟨o10B, o13B, rfl, sWB⟩
    have s0WB := same_tr s0OB sWB
    -- the row as it was
    refine ⟨_, rfl, _, rfl, _, rfl, r, c, t, ks, os, ws, ds, rfl, R.same s0WB, B.same s0WB, kt_same s0WB _ _ ht, dps_same s0WB _ _ hd, by omega, (fun d h => Nat.le_trans (dep d h) (by omega)), fun H' s' => k H' (same_tr s0WB s')⟩
end
end K09

set_option Elab.async false
set_option linter.all false
set_option maxRecDepth 100000
set_option maxHeartbeats 4000000
/-! What the deck's doing leaves of rows; names led there and back. -/
namespace K09
open PySem PySem.Spec PyProof.Rows L2 Mine TL SkE StX
theorem sqT_keep {K : PySem.W.Frag} {H H' : Hp} {dk dl a : Addr} {t : Int} {xs : List V} (D : DeckAt H dk dl t) (k : Keep dk dl H H') (h : SqT K H a xs) : SqT K H' a xs := k.kt D a xs h
theorem ks_keep {K : PySem.W.Frag} {H H' : Hp} {dk dl kk : Addr} {t : Int} {ps : List Addr} {ks : List (Str × Int)} (D : DeckAt H dk dl t) (k : Keep dk dl H H') (h : KindsAt K H kk ps ks) : KindsAt K H' kk ps ks := by
  refine ⟨?_, paired_mono (fun _ _ => sqT_keep D k) h.each⟩
  rcases h.at_ with ⟨o, e, d⟩ | ⟨h, r⟩
  · obtain ⟨⟨_, h1, _⟩, ⟨_, h2, _⟩⟩ := D
    exact .inl ⟨o, k _ _ (ne_of e h1 (by intro z; cases z)) (ne_of e h2 (by intro z; cases z)) e, d⟩
  · exact .inr ⟨sqT_keep D k h, r⟩
theorem os_keep {K : PySem.W.Frag} {H H' : Hp} {dk dl oo : Addr} {t : Int} {as : List Addr} {os : List Opn} (D : DeckAt H dk dl t) (k : Keep dk dl H H') (h : OpnsAt K H oo as os) : OpnsAt K H' oo as os :=
  ⟨sqT_keep D k h.at_, paired_mono (fun _ _ ⟨b, bs, h1, h2, h3⟩ => ⟨b, bs, sqT_keep D k h1, sqT_keep D k h2, paired_mono (fun _ _ => sqT_keep D k) h3⟩) h.each⟩
theorem deck_same {H H' : Hp} {dk dl : Addr} {t : Int} (D : DeckAt H dk dl t) (k : Same H H') : DeckAt H' dk dl t := by
  obtain ⟨⟨m, x1, y1, z1⟩, ⟨cs, x2, y2⟩⟩ := D
  exact ⟨⟨m, k _ _ x1, y1, z1⟩, ⟨cs, k _ _ x2, y2⟩⟩
theorem same_keep {H H' : Hp} {dk dl : Addr} (k : Same H H') : Keep dk dl H H' := fun _ _ _ _ z => k _ _ z
theorem BkAt.keep {K : PySem.W.Frag} {C : Addr} {H H' : Hp} {dk dl x : Addr} {t : Int} {ks : List (Str × Int)} {os : List Opn} (b : BkAt K C H x ks os) (D : DeckAt H dk dl t) (k : Keep dk dl H H') : BkAt K C H' x ks os := by
  obtain ⟨dx, kk, oo, ps, as, h1, h2, h3⟩ := b.ex
  refine ⟨⟨dx, kk, oo, ps, as, ?_, ks_keep D k h2, os_keep D k h3⟩, b.kok, b.ook⟩
  obtain ⟨⟨_, e1, _⟩, ⟨_, e2, _⟩⟩ := D
  exact k _ _ (ne_of h1 e1 (by intro z; cases z)) (ne_of h1 e2 (by intro z; cases z)) h1
theorem RowAt.keep {K : PySem.W.Frag} {CB CR : Addr} {H H' : Hp} {dk dl r : Addr} {t : Int} {ks : List (Str × Int)} {os : List Opn} {ds : List PyData} (h : RowAt K CB CR H r ks os ds) (D : DeckAt H dk dl t) (k : Keep dk dl H H') : RowAt K CB CR H' r ks os ds := by
  obtain ⟨dx, b, t', n, p, ws, ps, pds, ys, h1, h2, h3, h4, h5, h6, h7, h8, h9⟩ := h.ex
  have D0 := D
  obtain ⟨⟨_, e1, _⟩, ⟨_, e2, _⟩⟩ := D0
  have kt := k.kt (K := K) D
  refine ⟨⟨dx, b, t', n, p, ws, ps, pds, ys, ?_, h2.keep D k, sqT_keep D k h3, ths_kt kt _ _ (thingAll_iff.mpr fun z hz => drawn_th (h.ok.each z hz).dr) h4, ?_, ?_, ths_kt kt _ _ (thingAll_iff.mpr fun z hz => drawn_th (h.ok.pieces z ((h9.mem z).mp hz)).1) h7, h8, h9⟩, h.ok⟩
  · exact k _ _ (ne_of h1 e1 (by intro z; cases z)) (ne_of h1 e2 (by intro z; cases z)) h1
  · exact k _ _ (ne_of h5 e1 (by intro z; cases z)) (ne_of h5 e2 (by intro z; cases z)) h5
  · exact k _ _ (ne_of h6 e1 (by intro z; cases z)) (ne_of h6 e2 (by intro z; cases z)) h6
/-- names led there and back -/
def okBack (f g : List (Str × Str)) : Bool := LV.all fun x => match renS (f.map kvS) x with
  | .str y => (match renS (g.map kvS) y with
    | .str z => z == x
    | _ => false)
  | _ => false
theorem back_leaf {f g : List (Str × Str)} (h : okBack f g = true) {x : Str} (hx : x ∈ LV) : put (renS (g.map kvS)) (renS (f.map kvS) x) = .str x := by
  have a := List.all_eq_true.mp h x hx
  cases e : renS (f.map kvS) x with
  | str y =>
    rw [e] at a
    dsimp only at a
    rw [put_str]
    cases e2 : renS (g.map kvS) y with
    | str z =>
      rw [e2] at a
      dsimp only at a
      rw [eq_of_beq a]
    | _ =>
      rw [e2] at a
      cases a
  | _ =>
    rw [e] at a
    cases a
theorem back_put {f g : List (Str × Str)} (h : okBack f g = true) : ∀ (n : Nat) (d : PyData), sz d ≤ n → drawn d = true → put (renS (g.map kvS)) (put (renS (f.map kvS)) d) = d
  | 0, d, s, _ => absurd s (by have := sz_pos d; omega)
  | n + 1, d, s, dr => by
    rcases drawn_cases dr with ⟨c, rfl, hc⟩ | ⟨c, ps, rfl, ne, hc, hps⟩
    · rw [put_str]
      exact back_leaf h hc
    · rw [put_tup, put_tup, List.map_map]
      have : ps.map (put (renS (g.map kvS)) ∘ put (renS (f.map kvS))) = ps := by
        conv => rhs; rw [← List.map_id ps]
        refine List.map_congr_left fun p hp => back_put h n p ?_ (hps p hp)
        have := kid_sz (d := .tuple (.str c :: ps)) (p := p) hp
        omega
      rw [this]
theorem back_all {f g : List (Str × Str)} (h : okBack f g = true) {ks : List (Str × Int)} {ds : List PyData} (ok : OkR ks ds) : (ds.map (put (renS (f.map kvS)))).map (put (renS (g.map kvS))) = ds := by
  rw [List.map_map]
  conv => rhs; rw [← List.map_id ds]
  exact List.map_congr_left fun d hd => back_put h _ d (Nat.le_refl _) (ok.each d hd).dr
theorem paired_ren {K : PySem.W.Frag} {H : Hp} : ∀ {ps : List Addr} {l m : List Str}, Paired (fun t (xy : V × V) => H t = some (.tup [xy.1, xy.2])) ps ((l.map V.str).zip (m.map V.str)) → Paired (fun p kv => SqT K H p [kV kv.1, kv.2]) ps ((l.zip m).map kvS)
  | _, [], _, h => by
    rw [List.map_nil, List.zip_nil_left] at h
    cases h
    exact .nil
  | _, _ :: _, [], h => by
    rw [List.map_nil, List.zip_nil_right] at h
    cases h
    exact .nil
  | _, x :: l, y :: m, h => by
    rw [List.map_cons, List.map_cons, List.zip_cons_cons] at h
    cases h with
    | cons a r => exact .cons (SqT.of a) (paired_ren r)
abbrev ROT : List Str := [PySem.Str.ofString "L", PySem.Str.ofString "K1", PySem.Str.ofString "Zz", PySem.Str.ofString "N", PySem.Str.ofString "K"]
abbrev RKL : List (Str × Str) := [(PySem.Str.ofString "K", PySem.Str.ofString "L"), (PySem.Str.ofString "L", PySem.Str.ofString "K")]
abbrev RLK : List (Str × Str) := [(PySem.Str.ofString "L", PySem.Str.ofString "K"), (PySem.Str.ofString "K", PySem.Str.ofString "L")]
theorem ok1 : okBack (LBS.zip ROT) (ROT.zip LBS) = true := by decide +kernel
theorem ok2 : okBack RKL RLK = true := by decide +kernel
theorem ok3 : okBack [] [] = true := by decide +kernel
theorem rot1 : ∀ p ∈ LBS.zip ROT, p.2 ∈ LV := by decide +kernel
theorem rot2 : ∀ p ∈ ROT.zip LBS, p.2 ∈ LV := by decide +kernel
theorem rkl : ∀ p ∈ RKL, p.2 ∈ LV := by decide +kernel
theorem rlk : ∀ p ∈ RLK, p.2 ∈ LV := by decide +kernel
theorem cut_rot : cutV (LBS.map V.str) (some 1) none ++ cutV (LBS.map V.str) none (some 1) = ROT.map V.str := by rfl
theorem put_none {ks : List (Str × Int)} {ds : List PyData} (ok : OkR ks ds) : ds.map (put (renS (([] : List (Str × Str)).map kvS))) = ds := by
  have h := back_all ok3 ok
  have e : ∀ x, renS (([] : List (Str × Str)).map kvS) x = .str x := fun x => rfl
  conv => rhs; rw [← List.map_id ds]
  refine List.map_congr_left fun d hd => ?_
  have aux : ∀ (n : Nat) (d : PyData), sz d ≤ n → drawn d = true → put (renS (([] : List (Str × Str)).map kvS)) d = d := by
    intro n
    induction n with
    | zero => exact fun d s _ => absurd s (by have := sz_pos d; omega)
    | succ n ih =>
      intro d s dr
      rcases drawn_cases dr with ⟨c, rfl, hc⟩ | ⟨c, ps, rfl, ne, hc, hps⟩
      · rw [put_str, e]
      · rw [put_tup]
        have : ps.map (put (renS (([] : List (Str × Str)).map kvS))) = ps := by
          conv => rhs; rw [← List.map_id ps]
          refine List.map_congr_left fun p hp => ih p ?_ (hps p hp)
          have := kid_sz (d := .tuple (.str c :: ps)) (p := p) hp
          omega
        rw [this]
  exact aux _ d (Nat.le_refl _) (ok.each d hd).dr
end K09

set_option Elab.async false
set_option linter.all false
set_option maxRecDepth 100000
set_option maxHeartbeats 4000000
/-! The law. -/
namespace K09
open PySem PySem.Spec PyProof.Rows L2 Mine TL SkE StX
abbrev sLaw : Stmt := top 62
abbrev nLaw : List Str := ["_law_script", "_law_deck_here", "_law_labels", "_law_turn", "_law_makes", "_law_taking", "_law_code", "_law_it", "_law_near", "_law_again", "_law_put_here", "_law_there", "_law_back"]
abbrev LPT : List Str := [PySem.Str.ofString "a", PySem.Str.ofString "K", PySem.Str.ofString "N", PySem.Str.ofString "Q"]
theorem lpts : ∀ x ∈ LPT, x ∈ LV := by decide +kernel
def spLaw (K : PySem.W.Frag) : Sp := fun vs H Q _ => ∃ (a : Addr) (ns : List Int), vs = [.ref a] ∧ SqL K H a (ns.map V.int) ∧ ns.length ≤ 63 ∧ ∀ H', Q (.bl true) H'
structure TxtL (K : PySem.W.Frag) (mg : Str → Option Value) (CB CR fK fT fTs fH fD fP fW fR fRen fE : Addr) : Prop where
  cl : Cls K CR
  mRen : Meth K CR "renamed" fRen
  range : mg "range" = none
  tuple : mg "tuple" = none
  zip : mg "zip" = none
  gB : mg "Book" = some (.ref CB)
  gR : mg "Row" = some (.ref CR)
  k : Has K mg "_law_deck" fK
  t : Has K mg "_law_kit" fT
  ts : Has K mg "_law_things" fTs
  h : Has K mg "_law_thing" fH
  d : Has K mg "_law_draw" fD
  p : Has K mg "_law_pick" fP
  w : Has K mg "_law_ways" fW
  r : Has K mg "_law_right" fR
  aE : PySem.W.findIn K (.ref CR) "__eq__" = some (some (.ref fE))
  iE : PySem.W.isFn K (.ref fE) = true
  ne : PySem.W.findIn K (.ref CR) "__ne__" = some (some (.builtin "object.__ne__"))
  hm : PySem.W.mroIn K CR (.type "object") = some true
section
variable {P : Program} {w : World} {K : PySem.W.Frag} {mg : Str → Option Value} {base : Heap}
theorem castT2 {K : PySem.W.Frag} {n m : Nat} {i j : Int} {a b c : Addr} {H : Hp} {Q : VK} {E : XK} (h : spThing K m [.ref a, .ref b, .ref c, .int (n : Int), .int (m : Int)] H Q E) (e : i = (n : Int)) (e2 : j = (m : Int)) : spThing K m ([.ref a, .ref b, .ref c, .int i, .int j] ++ []) H Q E := by
  rw [e, e2]
  exact h
theorem scLaw : FnScope nLaw ["_law_script"] (defScope sLaw) := ⟨rfl, rfl, rfl, by decide +kernel, rfl, by decide +kernel, by decide +kernel⟩
theorem ok_law {f CB CR fK fT fTs fH fD fP fW fR fRen fE fB fI : Addr} {fd dK dT dTs dH dD dP dW dR dRen dE dB dI : FuncData} (F : Fun K "law" "law" sLaw f fd) (T : TxtL K mg CB CR fK fT fTs fH fD fP fW fR fRen fE)
    (GK : FnOk P w K mg base CX0 1 fK dK ["_law_script"] (spDeck K)) (bK : Binds K dK ["_law_script"] [])
    (GT : FnOk P w K mg base CX0 4 fT dT ["_law_deck_here"] spKit) (bT : Binds K dT ["_law_deck_here"] [])
    (GTs : FnOk P w K mg base CX0 13 fTs dTs ["_law_deck_here", "_law_makes", "_law_count", "_law_top"] (spThings K)) (bTs : Binds K dTs ["_law_deck_here", "_law_makes", "_law_count", "_law_top"] [])
    (G2 : FnOk P w K mg base CX0 5 fH dH pT (spThing K 2)) (bH : Binds K dH pT [])
    (GD : FnOk P w K mg base CX0 1 fD dD ["_law_deck_here", "_law_below"] spDraw) (bD : Binds K dD ["_law_deck_here", "_law_below"] [])
    (GP : FnOk P w K mg base CX0 2 fP dP ["_law_deck_here", "_law_some"] spPick) (bP : Binds K dP ["_law_deck_here", "_law_some"] [])
    (GW : FnOk P w K mg base CX0 3 fW dW ["_law_deck_here", "_law_labels"] (spWays K)) (bW : Binds K dW ["_law_deck_here", "_law_labels"] [])
    (GR : FnG P w K mg base 14 fR dR pRight (spLRight K CB CR)) (bR : Binds K dR pRight [])
    (MB : Mk K CB fB) (GB : FnOk P w K mg base CX0 6 fB dB ["self", "kinds", "openings"] (spInit K CB)) (bB : Binds K dB ["self", "kinds", "openings"] [])
    (MR : Mk K CR fI) (GI : FnOk P w K mg base CX0 4 fI dI ["self", "book", "things"] (spRInit K CB CR)) (bI : Binds K dI ["self", "book", "things"] [])
    (GRen : FnOk P w K mg base CX0 7 fRen dRen ["self", "pairs"] (spRRen K CB CR)) (bRen : Binds K dRen ["self", "pairs"] [])
    (GE : FnOk P w K mg base CX0 6 fE dE ["self", "other"] (spEq (AlikeR K CB CR))) (bE : Binds K dE ["self", "other"] []) :
    FnG P w K mg base 15 f fd ["_law_script"] (spLaw K) := by
  refine fnG_of F scLaw (fun vs H Q E h => ?_) (fun cdv A outer s H vs Q E hr hgd h => ?_)
  · obtain ⟨a, ns, rfl, _⟩ := h
    rfl
  · obtain ⟨a, ns, rfl, hS, hlen, k⟩ := h
    have hr1 : Room 1 _ := hr.mono (by decide)
    have hr2 : Room 2 _ := hr.mono (by decide)
    have hr3 : Room 3 _ := hr.mono (by decide)
    have hr4 : Room 4 _ := hr.mono (by decide)
    have hr5 : Room 5 _ := hr.mono (by decide)
    have hr6 : Room 6 _ := hr.mono (by decide)
    have hr7 : Room 7 _ := hr.mono (by decide)
    have hr13 : Room 13 _ := hr.mono (by decide)
    have line : sizeLine = 16777216 := sizeLine_eq
    refine ⟨_, pss_cons (ps_set (i := 1) scLaw.nd rfl (.inl rfl) (pe_call GK hr1 rfl T.k.g T.k.k bK .nil pass0 (pa_cons (pv 0) pa_nil)))
      (pss_cons (ps_set (i := 2) scLaw.nd rfl (.inl rfl) (pe_lst (pa_cons pe_str (pa_cons pe_str (pa_cons pe_str (pa_cons pe_str (pa_cons pe_str pa_nil)))))))
      (pss_cons (ps_for PassesOwn.never rfl (pi_range1 rfl T.range (pa_cons pe_int pa_nil)) (pg_name (i := 3) scLaw.nd rfl (.inl rfl))
      (pss_cons (ps_asg (pe_call GT hr4 rfl T.t.g T.t.k bT .nil pass0 (pa_cons (pv 1) pa_nil)) (pg_tup rfl (pgs_cons (pg_name (i := 4) scLaw.nd rfl (.inl rfl)) (pgs_cons (pg_name (i := 5) scLaw.nd rfl (.inl rfl)) pgs_nil))))
      (pss_cons (ps_par (i := 6) (j := 7) rfl scLaw.nd rfl rfl (by decide) rfl rfl (pa_cons (pe_make MB GB hr7 rfl T.gB bB .nil pass0 (pa_cons (pv 4) (pa_cons (pv 5) pa_nil))) (pa_cons (pe_call GTs hr13 rfl T.ts.g T.ts.k bTs .nil pass0 (pa_cons (pv 1) (pa_cons (pv 4) (pa_cons pe_int (pa_cons pe_int pa_nil))))) pa_nil)) (by rfl))
      (pss_cons (ps_set (i := 8) scLaw.nd rfl (.inl rfl) (pe_make MR GI hr5 rfl T.gR bI .nil pass0 (pa_cons (pv 6) (pa_cons (pv 7) pa_nil))))
      (pss_cons (ps_for PassesOwn.never rfl (pi_range1 rfl T.range (pa_cons pe_int pa_nil)) (pg_name (i := 9) scLaw.nd rfl (.inl rfl))
      (pss_cons (ps_set (i := 10) scLaw.nd rfl (.inl rfl) (pe_call G2 hr5 rfl T.h.g T.h.k bH .nil pass0 (pa_cons (pv 1) (pa_cons (pv 4) (pa_cons (pe_lst (pa_cons pe_str (pa_cons pe_str (pa_cons pe_str (pa_cons pe_str pa_nil))))) (pa_cons (pe_op op_add pe_int (pe_call GD hr1 rfl T.d.g T.d.k bD .nil pass0 (pa_cons (pv 1) (pa_cons pe_int pa_nil)))) (pa_cons pe_int pa_nil)))))))
      (pss_one (ps_if (pt_not (pt_val (pe_callG GR hr hgd rfl T.r.g T.r.k bR (pa_cons (pv 8) (pa_cons (pv 6) (pa_cons (pv 7) (pa_cons (pe_call GP hr2 rfl T.p.g T.p.k bP .nil pass0 (pa_cons (pv 1) (pa_cons (pv 2) pa_nil))) (pa_cons (pv 10) (pa_cons (pe_call GW hr3 rfl T.w.g T.w.k bW .nil pass0 (pa_cons (pv 1) (pa_cons (pv 2) pa_nil))) pa_nil))))))))) (pss_one (ps_ret pe_bl)) pss_nil))))
      (pss_cons (ps_par (i := 11) (j := 12) rfl scLaw.nd rfl rfl (by decide) rfl rfl (pa_cons (pe_tupZip rfl (by rfl) T.tuple (by rfl) T.zip (pa_cons (pv 2) (pa_cons (pe_op op_cat (pe_slice sl_list (pv 2) (po_some pe_int) po_none) (pe_slice sl_list (pv 2) po_none (po_some pe_int))) pa_nil))) (pa_cons (pe_tupZip rfl (by rfl) T.tuple (by rfl) T.zip (pa_cons (pe_op op_cat (pe_slice sl_list (pv 2) (po_some pe_int) po_none) (pe_slice sl_list (pv 2) po_none (po_some pe_int))) (pa_cons (pv 2) pa_nil))) pa_nil)) (by rfl))
      (pss_cons (ps_if (PW.pt (pw_or (pt_not (pt_cmpR (op_eqG (rcG_ins GE T.aE T.iE bE pass0) hr6) (pe_meth (pe_meth (pv 8) T.cl T.mRen GRen hr7 bRen .nil pass0 (pa_cons (pv 11) pa_nil)) T.cl T.mRen GRen hr7 bRen .nil pass0 (pa_cons (pv 12) pa_nil)) (pv 8) (nomark _))) (pw_or1 (pt_not (pt_cmpR (op_eqG (rcG_ins GE T.aE T.iE bE pass0) hr6) (pe_meth (pv 8) T.cl T.mRen GRen hr7 bRen .nil pass0 (pa_cons (pe_tupF pa_nil) pa_nil)) (pv 8) (nomark _)))))) (pss_one (ps_ret pe_bl)) pss_nil)
      (pss_one (ps_if (pt_cmpR (op_neIns GE T.aE T.iE T.ne T.hm bE hr7) (pe_meth (pe_meth (pv 8) T.cl T.mRen GRen hr7 bRen .nil pass0 (pa_cons (pe_tupF (pa_cons (pe_tup (pa_cons pe_str (pa_cons pe_str pa_nil))) (pa_cons (pe_tup (pa_cons pe_str (pa_cons pe_str pa_nil))) pa_nil))) pa_nil)) T.cl T.mRen GRen hr7 bRen .nil pass0 (pa_cons (pe_tupF (pa_cons (pe_tup (pa_cons pe_str (pa_cons pe_str pa_nil))) (pa_cons (pe_tup (pa_cons pe_str (pa_cons pe_str pa_nil))) pa_nil))) pa_nil)) (pv 8) (nomark _)) (pss_one (ps_ret pe_bl)) pss_nil)))))))))
      (pss_one (ps_ret pe_bl)))), ?_⟩
    refine ⟨_, rfl, a, ns, rfl, hS, hlen, fun dk dl H1 S1 _ _ D1 => ?_⟩
    refine ⟨(by show 5 ≤ sizeLine; omega), fun lb hlb => ?_⟩
    have D2 := D1.new (o := .lst (LBS.map V.str)) hlb
    have elb : upd H1 lb (.lst (LBS.map V.str)) lb = some (.lst (LBS.map V.str)) := upd_same
    obtain ⟨lbk, lbl⟩ := D1.off hlb
    show Ends.nx _ _ (upd H1 lb (.lst (LBS.map V.str)))
    generalize upd H1 lb (.lst (LBS.map V.str)) = H2 at D2 elb
    refine ⟨_, rfl, by decide, by decide, ?_⟩
    refine for_range (lo := 0) (n := 4) (fun n σ H' => ∃ (t : Int) (o3 o4 o5 o6 o7 o8 o9 o10 o11 o12 : Option V), σ = [some (.ref a), some (.ref dk), some (.ref lb), o3, o4, o5, o6, o7, o8, o9, o10, o11, o12] ∧ DeckAt H' dk dl t ∧ 0 ≤ t ∧ t ≤ (n : Int) * 2000 ∧ Keep dk dl H2 H')
      ⟨0, none, none, none, none, none, none, none, none, none, none, rfl, D2, by omega, by omega, Keep.refl⟩ ?_ ?_
    · rintro n σ H3 hn ⟨t, o3, o4, o5, o6, o7, o8, o9, o10, o11, o12, rfl, D3, ta, tb, K3⟩
      have nle : (n : Int) ≤ 3 := by omega
      refine ⟨_, rfl, dk, dl, t, rfl, D3, ta, by omega, fun r p1 p2 vs ws0 ks os t1 H4 D4 tc td K4 nr np1 np2 er e1 e2 hv hw ok => ?_⟩
      refine ⟨r, _, rfl, SqT.of er, rfl, _, _, rfl, _, _, rfl, rfl, ?_⟩
      have M4 : MakesAt H4 p1 vs ks := ⟨e1, DKs.keeps nw_some _ _ hv, ok.sub, ok.num⟩
      have w6 : ∀ o ∈ os, o.w ∈ W6 := fun o ho => ok.osub.subset (List.mem_map_of_mem ho)
      obtain ⟨os', eo, ew, ook⟩ := ops_of ok.sub ok.ops w6
      have hv3 : DKs H4 vs (ks.map kD) := DKs.keeps nw_some _ _ hv
      have hw3 : DKs H4 ws0 (os'.map opD) := by
        rw [← eo]
        exact DKs.keeps nw_some _ _ hw
      obtain ⟨ps, evs, hps⟩ := ks_paired hv3
      obtain ⟨as, rfl, has⟩ := items_at hw3
      have ol : os'.length ≤ 6 := by
        have z := os_len ok
        have z2 : (os'.map (·.w)).length = (os.map (·.w)).length := by rw [ew]
        rw [List.length_map, List.length_map] at z2
        omega
      have kA : KindsAt K H4 p1 ps ks := ⟨by rw [evs] at e1; exact e1.n, paired_mono (fun _ _ => SqT.of) hps⟩
      have oA : OpnsAt K H4 p2 as os' := ⟨SqT.of e2, paired_mono (fun _ _ h => h.opn) has⟩
      have oOk : OsOk ks os' := ⟨ook, by rw [ew]; exact asc_of (w6_lt.sublist ok.osub), by omega⟩
      have kOk := ks_ok ok
      -- the book
      refine ⟨_, rfl, _, rfl, fun c cdx nx ndx ne => ?_⟩
      have sb : Same H4 (upd (upd H4 cdx (.own c)) c (.ins CB cdx [])) := fun b o e => (upd_ne (ne_of_none e nx)).trans ((upd_ne (ne_of_none e ndx)).trans e)
      refine ⟨c, cdx, p1, p2, ps, as, ks, os', rfl, upd_same, kA.same sb, kOk, oA.same sb, oOk, fun H5 off hc => ⟨rfl, ?_⟩⟩
      have s45 : Same H4 H5 := fun b o e => off b o (ne_of_none e nx) (sb _ _ e)
      have B5 : BkAt K CB H5 c ks os' := ⟨⟨cdx, p1, p2, ps, as, hc, kA.same s45, oA.same s45⟩, kOk, oOk⟩
      have D5 := deck_same D4 s45
      have M5 := M4.keep D4 (same_keep s45)
      clear kA oA hps has hv hw hv3 hw3 e1 e2 er sb off
      -- the things
      refine ⟨_, rfl, _, rfl, dk, dl, p1, t1, vs, ks, rfl, D5, M5, by omega, by omega, fun it wv ds t2 H6 D6 te tf K6 hit hds okR l6 m60 dep => ?_⟩
      refine ⟨_, _, rfl, ?_⟩
      have B6 := B5.keep D5 K6
      -- the row
      refine ⟨_, rfl, _, rfl, fun x dx nx2 ndx2 ne2 => made_row (E := E0) B6 hit hds okR nx2 ndx2 ne2 fun H7 s67 R7 => ?_⟩
      have D7 := deck_same D6 s67
      have B7 := B6.same s67
      have hit7 := kt_same s67 _ _ hit
      have hds7 := dps_same s67 _ _ hds
      have M7 := M5.keep D5 (K6.trans (same_keep s67))
      have K27 : Keep dk dl H2 H7 := K3.trans (K4.trans ((same_keep s45).trans (K6.trans (same_keep s67))))
      have elb7 := K27 _ _ lbk lbl elb
      have thds : thingAll ds = true := thingAll_iff.mpr fun z hz => drawn_th (okR.each z hz).dr
      refine ⟨_, rfl, by decide, by decide, ?_⟩
      refine for_range (lo := 0) (n := 3) (fun i σ H' => ∃ (t' : Int) (o9 o10 : Option V), σ = [some (.ref a), some (.ref dk), some (.ref lb), some (.int (0 + (n : Int))), some (.ref p1), some (.ref p2), some (.ref c), some (.ref it), some (.ref x), o9, o10, o11, o12] ∧ DeckAt H' dk dl t' ∧ t2 ≤ t' ∧ t' ≤ t2 + (i : Int) * 60 ∧ Keep dk dl H7 H')
        ⟨t2, o9, o10, rfl, D7, by omega, by omega, Keep.refl⟩ ?_ ?_
      · rintro i σ H8 hi ⟨t', o9, o10, rfl, D8, tg, th, K8⟩
        have i3 : (i : Int) ≤ 2 := by omega
        refine ⟨_, rfl, _, rfl, (by show 4 ≤ sizeLine; omega), fun pl hpl => ?_⟩
        have D8' := D8.new (o := .lst (LPT.map V.str)) hpl
        obtain ⟨plk, pll⟩ := D8.off hpl
        have epl : upd H8 pl (.lst (LPT.map V.str)) pl = some (.lst (LPT.map V.str)) := upd_same
        have K88 : Keep dk dl H8 (upd H8 pl (.lst (LPT.map V.str))) := Keep.refl.new hpl
        refine ⟨_, rfl, dk, dl, 4, t', rfl, D8', by decide, by decide, by omega, by omega, fun rr H9 r0 r1 D9 K9 => ⟨_, _, rfl, rfl, castT2 (E := E0) ⟨dk, dl, p1, pl, t' + 1, (1 + rr).toNat, vs, ks, LPT, rfl, D9, M7.keep D7 (K8.trans (K88.trans K9)), pll, K9 _ _ plk pll epl, lpts, by simp, by simp, by omega, by omega, by omega, by omega, fun v e t9 H10 D10 tx ty K10 dv dr sd dd fe => ?_⟩ (by omega) rfl⟩⟩
        have K78 : Keep dk dl H7 H10 := K8.trans (K88.trans (K9.trans K10))
        refine ⟨_, rfl, _, rfl, _, rfl, _, rfl, _, rfl, dk, dl, lb, t9, LBS.map V.str, rfl, D10, lbl, K78 _ _ lbk lbl elb7, by simp, by simp, by omega, by omega, fun y H11 hy D11 K11 => ?_⟩
        obtain ⟨nm, hnm, rfl⟩ := List.mem_map.mp hy
        refine ⟨_, rfl, _, rfl, _, rfl, dk, dl, lb, t9 + 1, rfl, D11, (K78.trans K11) _ _ lbk lbl elb7, lbl, by omega, by omega, fun wy pp ren t12 H12 D12 tz tw K12 fz prs rl => ?_⟩
        have K7c : Keep dk dl H7 H12 := K78.trans (K11.trans K12)
        have dv12 := th_kt ((K11.trans K12).kt D10) e v (drawn_th dr) dv
        refine ⟨x, c, it, wy, v, nm, e, ks, os', wv, ds, pp, ren, rfl, R7.keep D7 K7c, B7.keep D7 K7c, sqT_keep D7 K7c hit7, ths_kt (K7c.kt D7) _ _ thds hds7, l6, m60, dep, dv12, dr, fe, by omega, dd, fz.n, prs, rl, fun H13 s13 => ⟨_, rfl, ite2 (fun z => absurd z (by decide)) fun _ => ⟨t12, _, _, rfl, deck_same D12 s13, by omega, by rw [Int.natCast_succ]; omega, K7c.trans (same_keep s13)⟩⟩⟩
      rintro σ H8 ⟨t', o9, o10, rfl, D8, tg, th, K8⟩
      have R8 := R7.keep D7 K8
      have elb8 := K8 _ _ lbk lbl elb7
      have K28 := K27.trans K8
      clear M7 M5 M4 B7 B6 B5 hit7 hds7 hit hds R7 K4 K6
      refine ⟨_, rfl, ?_⟩
      refine ⟨_, rfl, _, rfl, lb, _, rfl, SqL.of (elb8), fun q1 hq1 => ?_⟩
      have sq1 : Same H8 (upd H8 q1 (.lst (cutV (LBS.map V.str) (some 1) none))) := same_new same_rfl hq1
      have eq1 : upd H8 q1 (.lst (cutV (LBS.map V.str) (some 1) none)) q1 = some (.lst (cutV (LBS.map V.str) (some 1) none)) := upd_same
      generalize upd H8 q1 (.lst (cutV (LBS.map V.str) (some 1) none)) = A1 at sq1 eq1
      refine ⟨_, rfl, _, rfl, lb, _, rfl, SqL.of (sq1 _ _ (elb8)), fun q2 hq2 => ?_⟩
      have sq2 : Same A1 (upd A1 q2 (.lst (cutV (LBS.map V.str) none (some 1)))) := same_new same_rfl hq2
      have eq2 : upd A1 q2 (.lst (cutV (LBS.map V.str) none (some 1))) q2 = some (.lst (cutV (LBS.map V.str) none (some 1))) := upd_same
      generalize upd A1 q2 (.lst (cutV (LBS.map V.str) none (some 1))) = A2 at sq2 eq2
      refine ⟨q1, q2, _, _, rfl, rfl, sq2 _ _ eq1, eq2, (by show 5 ≤ sizeLine; omega), fun q3 hq3 => ?_⟩
      rw [cut_rot]
      have sq3 : Same H8 (upd A2 q3 (.lst (ROT.map V.str))) := same_new (same_tr sq1 sq2) hq3
      have eq3 : upd A2 q3 (.lst (ROT.map V.str)) q3 = some (.lst (ROT.map V.str)) := upd_same
      generalize upd A2 q3 (.lst (ROT.map V.str)) = A3 at sq3 eq3
      refine ⟨lb, q3, LBS.map V.str, ROT.map V.str, rfl, SqL.of (sq3 _ _ elb8), SqL.of eq3, rfl, fun tt ob tp A4 sA4 ntt od ett prs => ?_⟩
      have s84 := same_tr sq3 sA4
      refine ⟨_, rfl, _, rfl, lb, _, rfl, SqL.of (s84 _ _ elb8), fun u1 hu1 => ?_⟩
      have su1 : Same A4 (upd A4 u1 (.lst (cutV (LBS.map V.str) (some 1) none))) := same_new same_rfl hu1
      have eu1 : upd A4 u1 (.lst (cutV (LBS.map V.str) (some 1) none)) u1 = some (.lst (cutV (LBS.map V.str) (some 1) none)) := upd_same
      generalize upd A4 u1 (.lst (cutV (LBS.map V.str) (some 1) none)) = B1 at su1 eu1
      refine ⟨_, rfl, _, rfl, lb, _, rfl, SqL.of (su1 _ _ (s84 _ _ elb8)), fun u2 hu2 => ?_⟩
      have su2 : Same B1 (upd B1 u2 (.lst (cutV (LBS.map V.str) none (some 1)))) := same_new same_rfl hu2
      have eu2 : upd B1 u2 (.lst (cutV (LBS.map V.str) none (some 1))) u2 = some (.lst (cutV (LBS.map V.str) none (some 1))) := upd_same
      generalize upd B1 u2 (.lst (cutV (LBS.map V.str) none (some 1))) = B2 at su2 eu2
      refine ⟨u1, u2, _, _, rfl, rfl, su2 _ _ eu1, eu2, (by show 5 ≤ sizeLine; omega), fun u3 hu3 => ?_⟩
      rw [cut_rot]
      have su3 : Same A4 (upd B2 u3 (.lst (ROT.map V.str))) := same_new (same_tr su1 su2) hu3
      have eu3 : upd B2 u3 (.lst (ROT.map V.str)) u3 = some (.lst (ROT.map V.str)) := upd_same
      generalize upd B2 u3 (.lst (ROT.map V.str)) = B3 at su3 eu3
      refine ⟨_, rfl, u3, lb, ROT.map V.str, LBS.map V.str, rfl, SqL.of eu3, SqL.of (su3 _ _ (s84 _ _ elb8)), rfl, fun tu ob2 up A5 sA5 ntu od2 etu pru => ?_⟩
      have s85 : Same H8 A5 := same_tr s84 (same_tr su3 sA5)
      have ett5 := same_tr su3 sA5 _ _ ett
      have prs' := paired_ren (K := K) prs
      have pr1 := Paired.mapP prs' fun p kv z => kt_same (same_tr su3 sA5) _ _ z
      have pr2 := paired_ren (K := K) pru
      refine ⟨_, _, rfl, ?_⟩
      obtain ⟨dx8, _, _, _, _, _, _, _, _, hx8, _⟩ := id R8.ex
      have R8' := R8.same s85
      have hx5 := s85 _ _ hx8
      have T1 : TupN K A5 tt (tp.map V.ref) := .inl ⟨ob, ett5, od⟩
      have T2 : TupN K A5 tu (up.map V.ref) := .inl ⟨ob2, etu, od2⟩
      refine ⟨_, rfl, x, dx8, _, rfl, hx5, rfl, _, rfl, x, tt, tp, _, ks, os', ds, rfl, R8', T1, pr1, rot1, fun r1 G1 sg1 nr1 Rr1 => ?_⟩
      obtain ⟨dr1, _, _, _, _, _, _, _, _, hr1', _⟩ := id Rr1.ex
      refine ⟨r1, dr1, _, rfl, hr1', rfl, _, rfl, r1, tu, up, _, ks, os', _, rfl, Rr1, tupN_same sg1 T2, Paired.mapP pr2 fun p kv z => kt_same sg1 _ _ z, rot2, fun r2 G2 sg2 nr2 Rr2 => ?_⟩
      rw [back_all ok1 okR] at Rr2
      obtain ⟨dr2, _, _, _, _, _, _, _, _, hr2', _⟩ := id Rr2.ex
      have s12 := same_tr sg1 sg2
      refine ⟨_, rfl, ⟨r2, x, _, _, _, _, rfl, rfl, hr2', s12 _ _ hx5, ks, os', ds, Rr2, R8'.same s12, by omega⟩, fun G3 s3 => ?_⟩
      refine ⟨_, rfl, ite2 (fun z => absurd z (by decide)) (fun _ => ?_)⟩
      have s53 : Same A5 G3 := same_tr s12 s3
      refine ⟨_, rfl, x, dx8, _, rfl, s53 _ _ hx5, rfl, Nat.zero_le _, fun v1 ov hv1 dv => ?_⟩
      have sv : Same G3 (upd G3 v1 (.frz ov (.tup []))) := same_new same_rfl hv1
      refine ⟨x, v1, [], [], ks, os', ds, rfl, R8'.same (same_tr s53 sv), .inl ⟨ov, upd_same, dv⟩, .nil, (fun _ z => (List.not_mem_nil z).elim), fun r3 G4 s4 nr3 Rr3 => ?_⟩
      rw [put_none okR] at Rr3
      have s54 : Same A5 G4 := same_tr s53 (same_tr sv s4)
      obtain ⟨dr3, _, _, _, _, _, _, _, _, hr3', _⟩ := id Rr3.ex
      refine ⟨_, rfl, ⟨r3, x, _, _, _, _, rfl, rfl, hr3', s54 _ _ hx5, ks, os', ds, Rr3, R8'.same s54, by omega⟩, fun G5 s5 => ⟨_, rfl, ite2 (fun z => absurd z (by decide)) (fun _ => ?_)⟩⟩
      have s55 : Same A5 G5 := same_tr s54 s5
      refine ⟨_, rfl, x, dx8, _, rfl, s55 _ _ hx5, rfl, (by show 2 ≤ sizeLine; omega), fun m1 hm1 => ⟨(by show 2 ≤ sizeLine; omega), fun m2 hm2 => ⟨(by show 2 ≤ sizeLine; omega), fun m3 om hm3 dm => ?_⟩⟩⟩
      have fm1 : Same G5 (upd G5 m1 (.tup [.str (PySem.Str.ofString "K"), .str (PySem.Str.ofString "L")])) := same_new same_rfl hm1
      have em1 : upd G5 m1 (.tup [.str (PySem.Str.ofString "K"), .str (PySem.Str.ofString "L")]) m1 = some (.tup [.str (PySem.Str.ofString "K"), .str (PySem.Str.ofString "L")]) := upd_same
      generalize upd G5 m1 (.tup [.str (PySem.Str.ofString "K"), .str (PySem.Str.ofString "L")]) = M1 at fm1 em1 hm2 hm3
      have fm2 : Same M1 (upd M1 m2 (.tup [.str (PySem.Str.ofString "L"), .str (PySem.Str.ofString "K")])) := same_new same_rfl hm2
      have em2 : upd M1 m2 (.tup [.str (PySem.Str.ofString "L"), .str (PySem.Str.ofString "K")]) m2 = some (.tup [.str (PySem.Str.ofString "L"), .str (PySem.Str.ofString "K")]) := upd_same
      generalize upd M1 m2 (.tup [.str (PySem.Str.ofString "L"), .str (PySem.Str.ofString "K")]) = M2 at fm2 em2 hm3
      have fm3 : Same M2 (upd M2 m3 (.frz om (.tup [.ref m1, .ref m2]))) := same_new same_rfl hm3
      have em3 : upd M2 m3 (.frz om (.tup [.ref m1, .ref m2])) m3 = some (.frz om (.tup [.ref m1, .ref m2])) := upd_same
      generalize upd M2 m3 (.frz om (.tup [.ref m1, .ref m2])) = M3 at fm3 em3
      have fm : Same G5 M3 := same_tr fm1 (same_tr fm2 fm3)
      have pm : Paired (fun p kv => SqT K M3 p [kV kv.1, kv.2]) [m1, m2] (RKL.map kvS) := .cons (SqT.of (fm3 _ _ (fm2 _ _ em1))) (.cons (SqT.of (fm3 _ _ em2)) .nil)
      have s5M : Same A5 M3 := same_tr s55 fm
      refine ⟨x, m3, [m1, m2], RKL, ks, os', ds, rfl, R8'.same s5M, .inl ⟨om, em3, dm⟩, pm, rkl, fun r4 G6 s6 nr4 Rr4 => ?_⟩
      obtain ⟨dr4, _, _, _, _, _, _, _, _, hr4', _⟩ := id Rr4.ex
      refine ⟨r4, dr4, _, rfl, hr4', rfl, (by show 2 ≤ sizeLine; omega), fun n1 hn1 => ⟨(by show 2 ≤ sizeLine; omega), fun n2 hn2 => ⟨(by show 2 ≤ sizeLine; omega), fun n3 on hn3 dn => ?_⟩⟩⟩
      have fn1 : Same G6 (upd G6 n1 (.tup [.str (PySem.Str.ofString "L"), .str (PySem.Str.ofString "K")])) := same_new same_rfl hn1
      have en1 : upd G6 n1 (.tup [.str (PySem.Str.ofString "L"), .str (PySem.Str.ofString "K")]) n1 = some (.tup [.str (PySem.Str.ofString "L"), .str (PySem.Str.ofString "K")]) := upd_same
      generalize upd G6 n1 (.tup [.str (PySem.Str.ofString "L"), .str (PySem.Str.ofString "K")]) = N1 at fn1 en1 hn2 hn3
      have fn2 : Same N1 (upd N1 n2 (.tup [.str (PySem.Str.ofString "K"), .str (PySem.Str.ofString "L")])) := same_new same_rfl hn2
      have en2 : upd N1 n2 (.tup [.str (PySem.Str.ofString "K"), .str (PySem.Str.ofString "L")]) n2 = some (.tup [.str (PySem.Str.ofString "K"), .str (PySem.Str.ofString "L")]) := upd_same
      generalize upd N1 n2 (.tup [.str (PySem.Str.ofString "K"), .str (PySem.Str.ofString "L")]) = N2 at fn2 en2 hn3
      have fn3 : Same N2 (upd N2 n3 (.frz on (.tup [.ref n1, .ref n2]))) := same_new same_rfl hn3
      have en3 : upd N2 n3 (.frz on (.tup [.ref n1, .ref n2])) n3 = some (.frz on (.tup [.ref n1, .ref n2])) := upd_same
      generalize upd N2 n3 (.frz on (.tup [.ref n1, .ref n2])) = N3 at fn3 en3
      have fn : Same G6 N3 := same_tr fn1 (same_tr fn2 fn3)
      have pn : Paired (fun p kv => SqT K N3 p [kV kv.1, kv.2]) [n1, n2] (RLK.map kvS) := .cons (SqT.of (fn3 _ _ (fn2 _ _ en1))) (.cons (SqT.of (fn3 _ _ en2)) .nil)
      refine ⟨r4, n3, [n1, n2], RLK, ks, os', _, rfl, Rr4.same fn, .inl ⟨on, en3, dn⟩, pn, rlk, fun r5 G7 s7 nr5 Rr5 => ?_⟩
      rw [back_all ok2 okR] at Rr5
      obtain ⟨dr5, _, _, _, _, _, _, _, _, hr5', _⟩ := id Rr5.ex
      have s57 : Same A5 G7 := same_tr s5M (same_tr s6 (same_tr fn s7))
      refine ⟨_, rfl, ⟨r5, x, _, _, _, _, rfl, rfl, hr5', s57 _ _ hx5, ks, os', ds, Rr5, R8'.same s57, by omega⟩, fun G8 s8 => ⟨_, rfl, ite2 (fun z => absurd z (by decide)) (fun _ => ?_)⟩⟩
      have s88 : Same H8 G8 := same_tr s85 (same_tr s57 s8)
      exact ⟨t', _, _, _, _, _, _, _, _, _, _, rfl, deck_same D8 s88, by omega, by rw [Int.natCast_succ]; omega, K28.trans (same_keep s88)⟩
    rintro σ H3 ⟨t, o3, o4, o5, o6, o7, o8, o9, o10, o11, o12, rfl, D3, ta, tb, K3⟩
    exact k _
end
end K09

set_option Elab.async false
set_option linter.all false
set_option maxRecDepth 100000
set_option maxHeartbeats 4000000
/-! What the top has written, and the end. -/
namespace K09
open PySem PySem.Spec PyProof.Rows L2 Mine TL SkE StX
theorem sqK {K : PySem.W.Frag} {H : Hp} {a : Addr} {its : Array Value} {n : Nat} {sl : Array (Option Value)} {xs : List V} (l : K.lookup a = some ⟨.type "tuple", none, .seq its n, sl⟩) (v : Vals xs its.toList) (hz : its.size ≤ 16777216) : SqT K H a xs := .inr ⟨_, its, n, l, rfl, rfl, (by rw [sizeLine_eq]; exact hz), v⟩
theorem rI {i : Int} {t : PySem.Tok} : RelV (.int i) (.int i t) := ⟨t, rfl⟩
theorem rS {x : Str} {t : PySem.Tok} : RelV (.str x) (.str x t) := ⟨t, rfl⟩
section
variable {P : Program} {w : World} {K : PySem.W.Frag} {mg : Str → Option Value}
theorem all_mk {h : Heap} {fa : Addr}  (X : K.In h) (G : h.Ns mainGlobals mg) (hfa : mg "law" = some (.ref fa))
    {f_deck f_draw f_pick f_need f_kit f_thing f_things f_ltext f_lname f_llot f_lput f_lis f_right f_ways f_law f_word f_name f_pieces f_texts f_textsof f_exch f_int f_rkinds f_ropens f_openq f_needq f_one f_has f_pok f_nap f_binit f_beq f_rinit f_req f_rstr f_rrepl f_rren f_rexch CB CR : Addr}
    {od_deck an_deck od_draw an_draw od_pick an_pick od_need an_need od_kit an_kit od_thing an_thing od_things an_things od_ltext an_ltext od_lname an_lname od_llot an_llot od_lput an_lput od_lis an_lis od_right an_right od_ways an_ways od_law an_law od_word an_word od_name an_name od_pieces an_pieces od_texts an_texts od_textsof an_textsof od_exch an_exch od_int an_int od_rkinds an_rkinds od_ropens an_ropens od_openq an_openq od_needq an_needq od_one an_one od_has an_has od_pok an_pok od_nap an_nap od_binit an_binit od_beq an_beq od_rinit an_rinit od_req an_req od_rstr an_rstr od_rrepl an_rrepl od_rren an_rren od_rexch an_rexch : Option Addr}
    {sl_deck sl_draw sl_pick sl_need sl_kit sl_thing sl_things sl_ltext sl_lname sl_llot sl_lput sl_lis sl_right sl_ways sl_law sl_word sl_name sl_pieces sl_texts sl_textsof sl_exch sl_int sl_rkinds sl_ropens sl_openq sl_needq sl_one sl_has sl_pok sl_nap sl_binit sl_beq sl_rinit sl_req sl_rstr sl_rrepl sl_rren sl_rexch : Array (Option Value)}
    {oc_deck kV_deck dc_deck pm_deck cd_deck ct_deck oc_draw kV_draw dc_draw pm_draw cd_draw ct_draw oc_pick kV_pick dc_pick pm_pick cd_pick ct_pick oc_need kV_need dc_need pm_need cd_need ct_need oc_kit kV_kit dc_kit pm_kit cd_kit ct_kit oc_thing kV_thing dc_thing pm_thing cd_thing ct_thing oc_things kV_things dc_things pm_things cd_things ct_things oc_ltext kV_ltext dc_ltext pm_ltext cd_ltext ct_ltext oc_lname kV_lname dc_lname pm_lname cd_lname ct_lname oc_llot kV_llot dc_llot pm_llot cd_llot ct_llot oc_lput kV_lput dc_lput pm_lput cd_lput ct_lput oc_lis kV_lis dc_lis pm_lis cd_lis ct_lis oc_right kV_right dc_right pm_right cd_right ct_right oc_ways kV_ways dc_ways pm_ways cd_ways ct_ways oc_law kV_law dc_law pm_law cd_law ct_law oc_word kV_word dc_word pm_word cd_word ct_word oc_name kV_name dc_name pm_name cd_name ct_name oc_pieces kV_pieces dc_pieces pm_pieces cd_pieces ct_pieces oc_texts kV_texts dc_texts pm_texts cd_texts ct_texts oc_textsof kV_textsof dc_textsof pm_textsof cd_textsof ct_textsof oc_exch kV_exch dc_exch pm_exch cd_exch ct_exch oc_int kV_int dc_int pm_int cd_int ct_int oc_rkinds kV_rkinds dc_rkinds pm_rkinds cd_rkinds ct_rkinds oc_ropens kV_ropens dc_ropens pm_ropens cd_ropens ct_ropens oc_openq kV_openq dc_openq pm_openq cd_openq ct_openq oc_needq kV_needq dc_needq pm_needq cd_needq ct_needq oc_one kV_one dc_one pm_one cd_one ct_one oc_has kV_has dc_has pm_has cd_has ct_has oc_pok kV_pok dc_pok pm_pok cd_pok ct_pok oc_nap kV_nap dc_nap pm_nap cd_nap ct_nap oc_binit kV_binit dc_binit pm_binit cd_binit ct_binit oc_beq kV_beq dc_beq pm_beq cd_beq ct_beq oc_rinit kV_rinit dc_rinit pm_rinit cd_rinit ct_rinit oc_req kV_req dc_req pm_req cd_req ct_req oc_rstr kV_rstr dc_rstr pm_rstr cd_rstr ct_rstr oc_rrepl kV_rrepl dc_rrepl pm_rrepl cd_rrepl ct_rrepl oc_rren kV_rren dc_rren pm_rren cd_rren ct_rren oc_rexch kV_rexch dc_rexch pm_rexch cd_rexch ct_rexch : Value}
    {t_longest t_mostp t_mostn : PySem.Tok}
    (a_deck : PySem.W.nsIn K mainGlobals "_law_deck" = some (some (.ref f_deck)))
    (l_deck : K.lookup f_deck = some ⟨oc_deck, od_deck, .func (PySem.W.fnOf "_law_deck" "_law_deck" (defArgs sDeck) (defBody sDeck) (defScope sDeck) .none kV_deck dc_deck pm_deck an_deck cd_deck ct_deck), sl_deck⟩)
    (c_deck : PySem.W.codeIn K cd_deck "_law_deck" = true)
    (k_deck : PySem.W.keepIn K (.ref f_deck) = true)
    (a_draw : PySem.W.nsIn K mainGlobals "_law_draw" = some (some (.ref f_draw)))
    (l_draw : K.lookup f_draw = some ⟨oc_draw, od_draw, .func (PySem.W.fnOf "_law_draw" "_law_draw" (defArgs sDraw) (defBody sDraw) (defScope sDraw) .none kV_draw dc_draw pm_draw an_draw cd_draw ct_draw), sl_draw⟩)
    (c_draw : PySem.W.codeIn K cd_draw "_law_draw" = true)
    (k_draw : PySem.W.keepIn K (.ref f_draw) = true)
    (a_pick : PySem.W.nsIn K mainGlobals "_law_pick" = some (some (.ref f_pick)))
    (l_pick : K.lookup f_pick = some ⟨oc_pick, od_pick, .func (PySem.W.fnOf "_law_pick" "_law_pick" (defArgs sPick) (defBody sPick) (defScope sPick) .none kV_pick dc_pick pm_pick an_pick cd_pick ct_pick), sl_pick⟩)
    (c_pick : PySem.W.codeIn K cd_pick "_law_pick" = true)
    (k_pick : PySem.W.keepIn K (.ref f_pick) = true)
    (a_need : PySem.W.nsIn K mainGlobals "_law_need" = some (some (.ref f_need)))
    (l_need : K.lookup f_need = some ⟨oc_need, od_need, .func (PySem.W.fnOf "_law_need" "_law_need" (defArgs sNeed) (defBody sNeed) (defScope sNeed) .none kV_need dc_need pm_need an_need cd_need ct_need), sl_need⟩)
    (c_need : PySem.W.codeIn K cd_need "_law_need" = true)
    (k_need : PySem.W.keepIn K (.ref f_need) = true)
    (a_kit : PySem.W.nsIn K mainGlobals "_law_kit" = some (some (.ref f_kit)))
    (l_kit : K.lookup f_kit = some ⟨oc_kit, od_kit, .func (PySem.W.fnOf "_law_kit" "_law_kit" (defArgs sKit) (defBody sKit) (defScope sKit) .none kV_kit dc_kit pm_kit an_kit cd_kit ct_kit), sl_kit⟩)
    (c_kit : PySem.W.codeIn K cd_kit "_law_kit" = true)
    (k_kit : PySem.W.keepIn K (.ref f_kit) = true)
    (a_thing : PySem.W.nsIn K mainGlobals "_law_thing" = some (some (.ref f_thing)))
    (l_thing : K.lookup f_thing = some ⟨oc_thing, od_thing, .func (PySem.W.fnOf "_law_thing" "_law_thing" (defArgs sThing) (defBody sThing) (defScope sThing) .none kV_thing dc_thing pm_thing an_thing cd_thing ct_thing), sl_thing⟩)
    (c_thing : PySem.W.codeIn K cd_thing "_law_thing" = true)
    (k_thing : PySem.W.keepIn K (.ref f_thing) = true)
    (a_things : PySem.W.nsIn K mainGlobals "_law_things" = some (some (.ref f_things)))
    (l_things : K.lookup f_things = some ⟨oc_things, od_things, .func (PySem.W.fnOf "_law_things" "_law_things" (defArgs sThings) (defBody sThings) (defScope sThings) .none kV_things dc_things pm_things an_things cd_things ct_things), sl_things⟩)
    (c_things : PySem.W.codeIn K cd_things "_law_things" = true)
    (k_things : PySem.W.keepIn K (.ref f_things) = true)
    (a_ltext : PySem.W.nsIn K mainGlobals "_law_text" = some (some (.ref f_ltext)))
    (l_ltext : K.lookup f_ltext = some ⟨oc_ltext, od_ltext, .func (PySem.W.fnOf "_law_text" "_law_text" (defArgs sLText) (defBody sLText) (defScope sLText) .none kV_ltext dc_ltext pm_ltext an_ltext cd_ltext ct_ltext), sl_ltext⟩)
    (c_ltext : PySem.W.codeIn K cd_ltext "_law_text" = true)
    (k_ltext : PySem.W.keepIn K (.ref f_ltext) = true)
    (a_lname : PySem.W.nsIn K mainGlobals "_law_is_name" = some (some (.ref f_lname)))
    (l_lname : K.lookup f_lname = some ⟨oc_lname, od_lname, .func (PySem.W.fnOf "_law_is_name" "_law_is_name" (defArgs sLName) (defBody sLName) (defScope sLName) .none kV_lname dc_lname pm_lname an_lname cd_lname ct_lname), sl_lname⟩)
    (c_lname : PySem.W.codeIn K cd_lname "_law_is_name" = true)
    (k_lname : PySem.W.keepIn K (.ref f_lname) = true)
    (a_llot : PySem.W.nsIn K mainGlobals "_law_lot" = some (some (.ref f_llot)))
    (l_llot : K.lookup f_llot = some ⟨oc_llot, od_llot, .func (PySem.W.fnOf "_law_lot" "_law_lot" (defArgs sLLot) (defBody sLLot) (defScope sLLot) .none kV_llot dc_llot pm_llot an_llot cd_llot ct_llot), sl_llot⟩)
    (c_llot : PySem.W.codeIn K cd_llot "_law_lot" = true)
    (k_llot : PySem.W.keepIn K (.ref f_llot) = true)
    (a_lput : PySem.W.nsIn K mainGlobals "_law_put" = some (some (.ref f_lput)))
    (l_lput : K.lookup f_lput = some ⟨oc_lput, od_lput, .func (PySem.W.fnOf "_law_put" "_law_put" (defArgs sLPut) (defBody sLPut) (defScope sLPut) .none kV_lput dc_lput pm_lput an_lput cd_lput ct_lput), sl_lput⟩)
    (c_lput : PySem.W.codeIn K cd_lput "_law_put" = true)
    (k_lput : PySem.W.keepIn K (.ref f_lput) = true)
    (a_lis : PySem.W.nsIn K mainGlobals "_law_is" = some (some (.ref f_lis)))
    (l_lis : K.lookup f_lis = some ⟨oc_lis, od_lis, .func (PySem.W.fnOf "_law_is" "_law_is" (defArgs sLIs) (defBody sLIs) (defScope sLIs) .none kV_lis dc_lis pm_lis an_lis cd_lis ct_lis), sl_lis⟩)
    (c_lis : PySem.W.codeIn K cd_lis "_law_is" = true)
    (k_lis : PySem.W.keepIn K (.ref f_lis) = true)
    (a_right : PySem.W.nsIn K mainGlobals "_law_right" = some (some (.ref f_right)))
    (l_right : K.lookup f_right = some ⟨oc_right, od_right, .func (PySem.W.fnOf "_law_right" "_law_right" (defArgs sLRight) (defBody sLRight) (defScope sLRight) .none kV_right dc_right pm_right an_right cd_right ct_right), sl_right⟩)
    (c_right : PySem.W.codeIn K cd_right "_law_right" = true)
    (k_right : PySem.W.keepIn K (.ref f_right) = true)
    (a_ways : PySem.W.nsIn K mainGlobals "_law_ways" = some (some (.ref f_ways)))
    (l_ways : K.lookup f_ways = some ⟨oc_ways, od_ways, .func (PySem.W.fnOf "_law_ways" "_law_ways" (defArgs sWays) (defBody sWays) (defScope sWays) .none kV_ways dc_ways pm_ways an_ways cd_ways ct_ways), sl_ways⟩)
    (c_ways : PySem.W.codeIn K cd_ways "_law_ways" = true)
    (k_ways : PySem.W.keepIn K (.ref f_ways) = true)
    (a_law : PySem.W.nsIn K mainGlobals "law" = some (some (.ref f_law)))
    (l_law : K.lookup f_law = some ⟨oc_law, od_law, .func (PySem.W.fnOf "law" "law" (defArgs sLaw) (defBody sLaw) (defScope sLaw) .none kV_law dc_law pm_law an_law cd_law ct_law), sl_law⟩)
    (c_law : PySem.W.codeIn K cd_law "law" = true)
    (k_law : PySem.W.keepIn K (.ref f_law) = true)
    (a_word : PySem.W.nsIn K mainGlobals "is_word" = some (some (.ref f_word)))
    (l_word : K.lookup f_word = some ⟨oc_word, od_word, .func (PySem.W.fnOf "is_word" "is_word" (defArgs sWord) (defBody sWord) (defScope sWord) .none kV_word dc_word pm_word an_word cd_word ct_word), sl_word⟩)
    (c_word : PySem.W.codeIn K cd_word "is_word" = true)
    (k_word : PySem.W.keepIn K (.ref f_word) = true)
    (a_name : PySem.W.nsIn K mainGlobals "is_name" = some (some (.ref f_name)))
    (l_name : K.lookup f_name = some ⟨oc_name, od_name, .func (PySem.W.fnOf "is_name" "is_name" (defArgs sName) (defBody sName) (defScope sName) .none kV_name dc_name pm_name an_name cd_name ct_name), sl_name⟩)
    (c_name : PySem.W.codeIn K cd_name "is_name" = true)
    (k_name : PySem.W.keepIn K (.ref f_name) = true)
    (a_pieces : PySem.W.nsIn K mainGlobals "all_pieces" = some (some (.ref f_pieces)))
    (l_pieces : K.lookup f_pieces = some ⟨oc_pieces, od_pieces, .func (PySem.W.fnOf "all_pieces" "all_pieces" (defArgs sPieces) (defBody sPieces) (defScope sPieces) .none kV_pieces dc_pieces pm_pieces an_pieces cd_pieces ct_pieces), sl_pieces⟩)
    (c_pieces : PySem.W.codeIn K cd_pieces "all_pieces" = true)
    (k_pieces : PySem.W.keepIn K (.ref f_pieces) = true)
    (a_texts : PySem.W.nsIn K mainGlobals "all_texts" = some (some (.ref f_texts)))
    (l_texts : K.lookup f_texts = some ⟨oc_texts, od_texts, .func (PySem.W.fnOf "all_texts" "all_texts" (defArgs sTexts) (defBody sTexts) (defScope sTexts) .none kV_texts dc_texts pm_texts an_texts cd_texts ct_texts), sl_texts⟩)
    (c_texts : PySem.W.codeIn K cd_texts "all_texts" = true)
    (k_texts : PySem.W.keepIn K (.ref f_texts) = true)
    (a_textsof : PySem.W.nsIn K mainGlobals "texts_of" = some (some (.ref f_textsof)))
    (l_textsof : K.lookup f_textsof = some ⟨oc_textsof, od_textsof, .func (PySem.W.fnOf "texts_of" "texts_of" (defArgs sTextsOf) (defBody sTextsOf) (defScope sTextsOf) .none kV_textsof dc_textsof pm_textsof an_textsof cd_textsof ct_textsof), sl_textsof⟩)
    (c_textsof : PySem.W.codeIn K cd_textsof "texts_of" = true)
    (k_textsof : PySem.W.keepIn K (.ref f_textsof) = true)
    (a_exch : PySem.W.nsIn K mainGlobals "exchanged" = some (some (.ref f_exch)))
    (l_exch : K.lookup f_exch = some ⟨oc_exch, od_exch, .func (PySem.W.fnOf "exchanged" "exchanged" (defArgs sExch) (defBody sExch) (defScope sExch) .none kV_exch dc_exch pm_exch an_exch cd_exch ct_exch), sl_exch⟩)
    (c_exch : PySem.W.codeIn K cd_exch "exchanged" = true)
    (k_exch : PySem.W.keepIn K (.ref f_exch) = true)
    (a_int : PySem.W.nsIn K mainGlobals "_is_integer" = some (some (.ref f_int)))
    (l_int : K.lookup f_int = some ⟨oc_int, od_int, .func (PySem.W.fnOf "_is_integer" "_is_integer" (defArgs sInt) (defBody sInt) (defScope sInt) .none kV_int dc_int pm_int an_int cd_int ct_int), sl_int⟩)
    (c_int : PySem.W.codeIn K cd_int "_is_integer" = true)
    (k_int : PySem.W.keepIn K (.ref f_int) = true)
    (a_rkinds : PySem.W.nsIn K mainGlobals "_right_kinds" = some (some (.ref f_rkinds)))
    (l_rkinds : K.lookup f_rkinds = some ⟨oc_rkinds, od_rkinds, .func (PySem.W.fnOf "_right_kinds" "_right_kinds" (defArgs sRKinds) (defBody sRKinds) (defScope sRKinds) .none kV_rkinds dc_rkinds pm_rkinds an_rkinds cd_rkinds ct_rkinds), sl_rkinds⟩)
    (c_rkinds : PySem.W.codeIn K cd_rkinds "_right_kinds" = true)
    (k_rkinds : PySem.W.keepIn K (.ref f_rkinds) = true)
    (a_ropens : PySem.W.nsIn K mainGlobals "_right_openings" = some (some (.ref f_ropens)))
    (l_ropens : K.lookup f_ropens = some ⟨oc_ropens, od_ropens, .func (PySem.W.fnOf "_right_openings" "_right_openings" (defArgs sROpens) (defBody sROpens) (defScope sROpens) .none kV_ropens dc_ropens pm_ropens an_ropens cd_ropens ct_ropens), sl_ropens⟩)
    (c_ropens : PySem.W.codeIn K cd_ropens "_right_openings" = true)
    (k_ropens : PySem.W.keepIn K (.ref f_ropens) = true)
    (a_openq : PySem.W.nsIn K mainGlobals "_is_opening" = some (some (.ref f_openq)))
    (l_openq : K.lookup f_openq = some ⟨oc_openq, od_openq, .func (PySem.W.fnOf "_is_opening" "_is_opening" (defArgs sOpenQ) (defBody sOpenQ) (defScope sOpenQ) .none kV_openq dc_openq pm_openq an_openq cd_openq ct_openq), sl_openq⟩)
    (c_openq : PySem.W.codeIn K cd_openq "_is_opening" = true)
    (k_openq : PySem.W.keepIn K (.ref f_openq) = true)
    (a_needq : PySem.W.nsIn K mainGlobals "_is_need" = some (some (.ref f_needq)))
    (l_needq : K.lookup f_needq = some ⟨oc_needq, od_needq, .func (PySem.W.fnOf "_is_need" "_is_need" (defArgs sNeedQ) (defBody sNeedQ) (defScope sNeedQ) .none kV_needq dc_needq pm_needq an_needq cd_needq ct_needq), sl_needq⟩)
    (c_needq : PySem.W.codeIn K cd_needq "_is_need" = true)
    (k_needq : PySem.W.keepIn K (.ref f_needq) = true)
    (a_one : PySem.W.nsIn K mainGlobals "_has_one_part" = some (some (.ref f_one)))
    (l_one : K.lookup f_one = some ⟨oc_one, od_one, .func (PySem.W.fnOf "_has_one_part" "_has_one_part" (defArgs sOne) (defBody sOne) (defScope sOne) .none kV_one dc_one pm_one an_one cd_one ct_one), sl_one⟩)
    (c_one : PySem.W.codeIn K cd_one "_has_one_part" = true)
    (k_one : PySem.W.keepIn K (.ref f_one) = true)
    (a_has : PySem.W.nsIn K mainGlobals "_has_all_parts" = some (some (.ref f_has)))
    (l_has : K.lookup f_has = some ⟨oc_has, od_has, .func (PySem.W.fnOf "_has_all_parts" "_has_all_parts" (defArgs sHas) (defBody sHas) (defScope sHas) .none kV_has dc_has pm_has an_has cd_has ct_has), sl_has⟩)
    (c_has : PySem.W.codeIn K cd_has "_has_all_parts" = true)
    (k_has : PySem.W.keepIn K (.ref f_has) = true)
    (a_pok : PySem.W.nsIn K mainGlobals "pieces_of_kinds" = some (some (.ref f_pok)))
    (l_pok : K.lookup f_pok = some ⟨oc_pok, od_pok, .func (PySem.W.fnOf "pieces_of_kinds" "pieces_of_kinds" (defArgs sPok) (defBody sPok) (defScope sPok) .none kV_pok dc_pok pm_pok an_pok cd_pok ct_pok), sl_pok⟩)
    (c_pok : PySem.W.codeIn K cd_pok "pieces_of_kinds" = true)
    (k_pok : PySem.W.keepIn K (.ref f_pok) = true)
    (a_nap : PySem.W.nsIn K mainGlobals "_names_and_pieces" = some (some (.ref f_nap)))
    (l_nap : K.lookup f_nap = some ⟨oc_nap, od_nap, .func (PySem.W.fnOf "_names_and_pieces" "_names_and_pieces" (defArgs sNap) (defBody sNap) (defScope sNap) .none kV_nap dc_nap pm_nap an_nap cd_nap ct_nap), sl_nap⟩)
    (c_nap : PySem.W.codeIn K cd_nap "_names_and_pieces" = true)
    (k_nap : PySem.W.keepIn K (.ref f_nap) = true)
    (a_CB : PySem.W.nsIn K mainGlobals "Book" = some (some (.ref CB)))
    (a_CR : PySem.W.nsIn K mainGlobals "Row" = some (some (.ref CR)))
    (a_binit : PySem.W.findIn K (.ref CB) "__init__" = some (some (.ref f_binit)))
    (i_binit : PySem.W.isFn K (.ref f_binit) = true)
    (l_binit : K.lookup f_binit = some ⟨oc_binit, od_binit, .func (PySem.W.fnOf "__init__" "Book.__init__" (defArgs sBInit) (defBody sBInit) (defScope sBInit) .none kV_binit dc_binit pm_binit an_binit cd_binit ct_binit), sl_binit⟩)
    (c_binit : PySem.W.codeIn K cd_binit "Book.__init__" = true)
    (k_binit : PySem.W.keepIn K (.ref f_binit) = true)
    (a_beq : PySem.W.findIn K (.ref CB) "__eq__" = some (some (.ref f_beq)))
    (i_beq : PySem.W.isFn K (.ref f_beq) = true)
    (l_beq : K.lookup f_beq = some ⟨oc_beq, od_beq, .func (PySem.W.fnOf "__eq__" "Book.__eq__" (defArgs sEq) (defBody sEq) (defScope sEq) .none kV_beq dc_beq pm_beq an_beq cd_beq ct_beq), sl_beq⟩)
    (c_beq : PySem.W.codeIn K cd_beq "Book.__eq__" = true)
    (k_beq : PySem.W.keepIn K (.ref f_beq) = true)
    (a_rinit : PySem.W.findIn K (.ref CR) "__init__" = some (some (.ref f_rinit)))
    (i_rinit : PySem.W.isFn K (.ref f_rinit) = true)
    (l_rinit : K.lookup f_rinit = some ⟨oc_rinit, od_rinit, .func (PySem.W.fnOf "__init__" "Row.__init__" (defArgs sRInit) (defBody sRInit) (defScope sRInit) .none kV_rinit dc_rinit pm_rinit an_rinit cd_rinit ct_rinit), sl_rinit⟩)
    (c_rinit : PySem.W.codeIn K cd_rinit "Row.__init__" = true)
    (k_rinit : PySem.W.keepIn K (.ref f_rinit) = true)
    (a_req : PySem.W.findIn K (.ref CR) "__eq__" = some (some (.ref f_req)))
    (i_req : PySem.W.isFn K (.ref f_req) = true)
    (l_req : K.lookup f_req = some ⟨oc_req, od_req, .func (PySem.W.fnOf "__eq__" "Row.__eq__" (defArgs sREq) (defBody sREq) (defScope sREq) .none kV_req dc_req pm_req an_req cd_req ct_req), sl_req⟩)
    (c_req : PySem.W.codeIn K cd_req "Row.__eq__" = true)
    (k_req : PySem.W.keepIn K (.ref f_req) = true)
    (a_rstr : PySem.W.findIn K (.ref CR) "__str__" = some (some (.ref f_rstr)))
    (i_rstr : PySem.W.isFn K (.ref f_rstr) = true)
    (l_rstr : K.lookup f_rstr = some ⟨oc_rstr, od_rstr, .func (PySem.W.fnOf "__str__" "Row.__str__" (defArgs sRStr) (defBody sRStr) (defScope sRStr) .none kV_rstr dc_rstr pm_rstr an_rstr cd_rstr ct_rstr), sl_rstr⟩)
    (c_rstr : PySem.W.codeIn K cd_rstr "Row.__str__" = true)
    (k_rstr : PySem.W.keepIn K (.ref f_rstr) = true)
    (a_rrepl : PySem.W.findIn K (.ref CR) "replaced" = some (some (.ref f_rrepl)))
    (i_rrepl : PySem.W.isFn K (.ref f_rrepl) = true)
    (l_rrepl : K.lookup f_rrepl = some ⟨oc_rrepl, od_rrepl, .func (PySem.W.fnOf "replaced" "Row.replaced" (defArgs sRRepl) (defBody sRRepl) (defScope sRRepl) .none kV_rrepl dc_rrepl pm_rrepl an_rrepl cd_rrepl ct_rrepl), sl_rrepl⟩)
    (c_rrepl : PySem.W.codeIn K cd_rrepl "Row.replaced" = true)
    (k_rrepl : PySem.W.keepIn K (.ref f_rrepl) = true)
    (a_rren : PySem.W.findIn K (.ref CR) "renamed" = some (some (.ref f_rren)))
    (i_rren : PySem.W.isFn K (.ref f_rren) = true)
    (l_rren : K.lookup f_rren = some ⟨oc_rren, od_rren, .func (PySem.W.fnOf "renamed" "Row.renamed" (defArgs sRRen) (defBody sRRen) (defScope sRRen) .none kV_rren dc_rren pm_rren an_rren cd_rren ct_rren), sl_rren⟩)
    (c_rren : PySem.W.codeIn K cd_rren "Row.renamed" = true)
    (k_rren : PySem.W.keepIn K (.ref f_rren) = true)
    (a_rexch : PySem.W.findIn K (.ref CR) "_exchanged" = some (some (.ref f_rexch)))
    (i_rexch : PySem.W.isFn K (.ref f_rexch) = true)
    (l_rexch : K.lookup f_rexch = some ⟨oc_rexch, od_rexch, .func (PySem.W.fnOf "_exchanged" "Row._exchanged" (defArgs sRExch) (defBody sRExch) (defScope sRExch) .none kV_rexch dc_rexch pm_rexch an_rexch cd_rexch ct_rexch), sl_rexch⟩)
    (c_rexch : PySem.W.codeIn K cd_rexch "Row._exchanged" = true)
    (k_rexch : PySem.W.keepIn K (.ref f_rexch) = true)
    (bpg : PySem.W.plainGet K CB Str.empty = true)
    (bhd : PySem.W.hasDictIn K CB = true)
    (bpo : PySem.W.plainOver K CB = true)
    (bsa : PySem.W.findIn K (.ref CB) "__setattr__" = some (some (.builtin "object.__setattr__")))
    (bmk : PySem.W.makesIn K CB = true)
    (bkc : PySem.W.keepIn K (.ref CB) = true)
    (bnK : PySem.W.findIn K (.ref CB) "kinds" = some none)
    (bnO : PySem.W.findIn K (.ref CB) "openings" = some none)
    (bca : PySem.W.findIn K (.ref CB) "__class__" = some (some (.builtin "object.__class__")))
    (bcm : PySem.W.mroIn K CB (.type "object") = some true)
    (rpg : PySem.W.plainGet K CR Str.empty = true)
    (rhd : PySem.W.hasDictIn K CR = true)
    (rpo : PySem.W.plainOver K CR = true)
    (rsa : PySem.W.findIn K (.ref CR) "__setattr__" = some (some (.builtin "object.__setattr__")))
    (rmk : PySem.W.makesIn K CR = true)
    (rkc : PySem.W.keepIn K (.ref CR) = true)
    (rnB : PySem.W.findIn K (.ref CR) "book" = some none)
    (rnT : PySem.W.findIn K (.ref CR) "things" = some none)
    (rnN : PySem.W.findIn K (.ref CR) "names" = some none)
    (rnP : PySem.W.findIn K (.ref CR) "pieces" = some none)
    (rca : PySem.W.findIn K (.ref CR) "__class__" = some (some (.builtin "object.__class__")))
    (rcm : PySem.W.mroIn K CR (.type "object") = some true)
    (icn : PySem.W.specialIn K (.builtin "object.__class__") "__get__" = some (some (.builtin "getset_descriptor.__get__")))
    (ict : PySem.W.takesIn K (.builtin "object.__class__") = some true)
    (rne : PySem.W.findIn K (.ref CR) "__ne__" = some (some (.builtin "object.__ne__")))
    (g_longest : PySem.W.nsIn K mainGlobals "LONGEST" = some (some (.int 8 t_longest)))
    (g_mostp : PySem.W.nsIn K mainGlobals "MOST_PARTS" = some (some (.int 3 t_mostp)))
    (g_mostn : PySem.W.nsIn K mainGlobals "MOST_NEEDS" = some (some (.int 2 t_mostn)))
    (z_len : PySem.W.nsIn K mainGlobals "len" = some none)
    (z_list : PySem.W.nsIn K mainGlobals "list" = some none)
    (z_tuple : PySem.W.nsIn K mainGlobals "tuple" = some none)
    (z_range : PySem.W.nsIn K mainGlobals "range" = some none)
    (z_isinstance : PySem.W.nsIn K mainGlobals "isinstance" = some none)
    (z_str : PySem.W.nsIn K mainGlobals "str" = some none)
    (z_int : PySem.W.nsIn K mainGlobals "int" = some none)
    (z_bool : PySem.W.nsIn K mainGlobals "bool" = some none)
    (z_all : PySem.W.nsIn K mainGlobals "all" = some none)
    (z_any : PySem.W.nsIn K mainGlobals "any" = some none)
    (z_zip : PySem.W.nsIn K mainGlobals "zip" = some none)
    (z_dict : PySem.W.nsIn K mainGlobals "dict" = some none)
    (z_set : PySem.W.nsIn K mainGlobals "set" = some none)
    (z_sorted : PySem.W.nsIn K mainGlobals "sorted" = some none)
    (z_reversed : PySem.W.nsIn K mainGlobals "reversed" = some none)
    (z_enumerate : PySem.W.nsIn K mainGlobals "enumerate" = some none)
    (z_repr : PySem.W.nsIn K mainGlobals "repr" = some none)
    (z_sum : PySem.W.nsIn K mainGlobals "sum" = some none)
    (z_min : PySem.W.nsIn K mainGlobals "min" = some none)
    (z_max : PySem.W.nsIn K mainGlobals "max" = some none)
     :
    ∃ fd : FuncData, (∀ (s : Shared) (v : Value), BindsTo s fd ⟨[v], []⟩ [("_law_script", v)]) ∧ ∀ base : Heap, K.In base → base.Ns mainGlobals mg → FnG P w K mg base 15 fa fd ["_law_script"] (spLaw K) := by
  have e := hfa.symm.trans (PySem.W.mg_of X G a_law)
  cases e
  have F_deck := fun_mk (st := sDeck) l_deck c_deck k_deck
  have F_draw := fun_mk (st := sDraw) l_draw c_draw k_draw
  have F_pick := fun_mk (st := sPick) l_pick c_pick k_pick
  have F_need := fun_mk (st := sNeed) l_need c_need k_need
  have F_kit := fun_mk (st := sKit) l_kit c_kit k_kit
  have F_thing := fun_mk (st := sThing) l_thing c_thing k_thing
  have F_things := fun_mk (st := sThings) l_things c_things k_things
  have F_ltext := fun_mk (st := sLText) l_ltext c_ltext k_ltext
  have F_lname := fun_mk (st := sLName) l_lname c_lname k_lname
  have F_llot := fun_mk (st := sLLot) l_llot c_llot k_llot
  have F_lput := fun_mk (st := sLPut) l_lput c_lput k_lput
  have F_lis := fun_mk (st := sLIs) l_lis c_lis k_lis
  have F_right := fun_mk (st := sLRight) l_right c_right k_right
  have F_ways := fun_mk (st := sWays) l_ways c_ways k_ways
  have F_law := fun_mk (st := sLaw) l_law c_law k_law
  have F_word := fun_mk (st := sWord) l_word c_word k_word
  have F_name := fun_mk (st := sName) l_name c_name k_name
  have F_pieces := fun_mk (st := sPieces) l_pieces c_pieces k_pieces
  have F_texts := fun_mk (st := sTexts) l_texts c_texts k_texts
  have F_textsof := fun_mk (st := sTextsOf) l_textsof c_textsof k_textsof
  have F_exch := fun_mk (st := sExch) l_exch c_exch k_exch
  have F_int := fun_mk (st := sInt) l_int c_int k_int
  have F_rkinds := fun_mk (st := sRKinds) l_rkinds c_rkinds k_rkinds
  have F_ropens := fun_mk (st := sROpens) l_ropens c_ropens k_ropens
  have F_openq := fun_mk (st := sOpenQ) l_openq c_openq k_openq
  have F_needq := fun_mk (st := sNeedQ) l_needq c_needq k_needq
  have F_one := fun_mk (st := sOne) l_one c_one k_one
  have F_has := fun_mk (st := sHas) l_has c_has k_has
  have F_pok := fun_mk (st := sPok) l_pok c_pok k_pok
  have F_nap := fun_mk (st := sNap) l_nap c_nap k_nap
  have F_binit := fun_mk (st := sBInit) l_binit c_binit k_binit
  have F_beq := fun_mk (st := sEq) l_beq c_beq k_beq
  have F_rinit := fun_mk (st := sRInit) l_rinit c_rinit k_rinit
  have F_req := fun_mk (st := sREq) l_req c_req k_req
  have F_rstr := fun_mk (st := sRStr) l_rstr c_rstr k_rstr
  have F_rrepl := fun_mk (st := sRRepl) l_rrepl c_rrepl k_rrepl
  have F_rren := fun_mk (st := sRRen) l_rren c_rren k_rren
  have F_rexch := fun_mk (st := sRExch) l_rexch c_rexch k_rexch
  have b_deck := F_deck.binds (ps := ["_law_script"]) fun _ _ _ _ _ _ us hl => match us, hl with | [_], _ => rfl
  have b_draw := F_draw.binds (ps := ["_law_deck_here", "_law_below"]) fun _ _ _ _ _ _ us hl => match us, hl with | [_, _], _ => rfl
  have b_pick := F_pick.binds (ps := ["_law_deck_here", "_law_some"]) fun _ _ _ _ _ _ us hl => match us, hl with | [_, _], _ => rfl
  have b_need := F_need.binds (ps := ["_law_deck_here", "_law_singles", "_law_many"]) fun _ _ _ _ _ _ us hl => match us, hl with | [_, _, _], _ => rfl
  have b_kit := F_kit.binds (ps := ["_law_deck_here"]) fun _ _ _ _ _ _ us hl => match us, hl with | [_], _ => rfl
  have b_thing := F_thing.binds (ps := ["_law_deck_here", "_law_makes", "_law_leaves", "_law_top", "_law_deep"]) fun _ _ _ _ _ _ us hl => match us, hl with | [_, _, _, _, _], _ => rfl
  have b_things := F_things.binds (ps := ["_law_deck_here", "_law_makes", "_law_count", "_law_top"]) fun _ _ _ _ _ _ us hl => match us, hl with | [_, _, _, _], _ => rfl
  have b_ltext := F_ltext.binds (ps := ["_law_it"]) fun _ _ _ _ _ _ us hl => match us, hl with | [_], _ => rfl
  have b_lname := F_lname.binds (ps := ["_law_it"]) fun _ _ _ _ _ _ us hl => match us, hl with | [_], _ => rfl
  have b_llot := F_llot.binds (ps := ["_law_it"]) fun _ _ _ _ _ _ us hl => match us, hl with | [_], _ => rfl
  have b_lput := F_lput.binds (ps := ["_law_it", "_law_others"]) fun _ _ _ _ _ _ us hl => match us, hl with | [_, _], _ => rfl
  have b_lis := F_lis.binds (ps := ["_law_near", "_law_code", "_law_it"]) fun _ _ _ _ _ _ us hl => match us, hl with | [_, _, _], _ => rfl
  have b_right := F_right.binds (ps := ["_law_near", "_law_code", "_law_it", "_law_label", "_law_put_here", "_law_ways_here"]) fun _ _ _ _ _ _ us hl => match us, hl with | [_, _, _, _, _, _], _ => rfl
  have b_ways := F_ways.binds (ps := ["_law_deck_here", "_law_labels"]) fun _ _ _ _ _ _ us hl => match us, hl with | [_, _], _ => rfl
  have b_word := F_word.binds (ps := ["thing"]) fun _ _ _ _ _ _ us hl => match us, hl with | [_], _ => rfl
  have b_name := F_name.binds (ps := ["thing"]) fun _ _ _ _ _ _ us hl => match us, hl with | [_], _ => rfl
  have b_pieces := F_pieces.binds (ps := ["things"]) fun _ _ _ _ _ _ us hl => match us, hl with | [_], _ => rfl
  have b_texts := F_texts.binds (ps := ["pieces"]) fun _ _ _ _ _ _ us hl => match us, hl with | [_], _ => rfl
  have b_textsof := F_textsof.binds (ps := ["things"]) fun _ _ _ _ _ _ us hl => match us, hl with | [_], _ => rfl
  have b_exch := F_exch.binds (ps := ["thing", "others"]) fun _ _ _ _ _ _ us hl => match us, hl with | [_, _], _ => rfl
  have b_int := F_int.binds (ps := ["value", "low", "high"]) fun _ _ _ _ _ _ us hl => match us, hl with | [_, _, _], _ => rfl
  have b_rkinds := F_rkinds.binds (ps := ["kinds"]) fun _ _ _ _ _ _ us hl => match us, hl with | [_], _ => rfl
  have b_ropens := F_ropens.binds (ps := ["kinds", "openings"]) fun _ _ _ _ _ _ us hl => match us, hl with | [_, _], _ => rfl
  have b_openq := F_openq.binds (ps := ["counts", "opening"]) fun _ _ _ _ _ _ us hl => match us, hl with | [_, _], _ => rfl
  have b_needq := F_needq.binds (ps := ["counts", "last", "need"]) fun _ _ _ _ _ _ us hl => match us, hl with | [_, _, _], _ => rfl
  have b_one := F_one.binds (ps := ["counts", "kind"]) fun _ _ _ _ _ _ us hl => match us, hl with | [_, _], _ => rfl
  have b_has := F_has.binds (ps := ["counts", "thing"]) fun _ _ _ _ _ _ us hl => match us, hl with | [_, _], _ => rfl
  have b_pok := F_pok.binds (ps := ["counts", "things"]) fun _ _ _ _ _ _ us hl => match us, hl with | [_, _], _ => rfl
  have b_nap := F_nap.binds (ps := ["by_text"]) fun _ _ _ _ _ _ us hl => match us, hl with | [_], _ => rfl
  have b_binit := F_binit.binds (ps := ["self", "kinds", "openings"]) fun _ _ _ _ _ _ us hl => match us, hl with | [_, _, _], _ => rfl
  have b_beq := F_beq.binds (ps := ["self", "other"]) fun _ _ _ _ _ _ us hl => match us, hl with | [_, _], _ => rfl
  have b_rinit := F_rinit.binds (ps := ["self", "book", "things"]) fun _ _ _ _ _ _ us hl => match us, hl with | [_, _, _], _ => rfl
  have b_req := F_req.binds (ps := ["self", "other"]) fun _ _ _ _ _ _ us hl => match us, hl with | [_, _], _ => rfl
  have b_rstr := F_rstr.binds (ps := ["self"]) fun _ _ _ _ _ _ us hl => match us, hl with | [_], _ => rfl
  have b_rrepl := F_rrepl.binds (ps := ["self", "name", "thing"]) fun _ _ _ _ _ _ us hl => match us, hl with | [_, _, _], _ => rfl
  have b_rren := F_rren.binds (ps := ["self", "pairs"]) fun _ _ _ _ _ _ us hl => match us, hl with | [_, _], _ => rfl
  have b_rexch := F_rexch.binds (ps := ["self", "others"]) fun _ _ _ _ _ _ us hl => match us, hl with | [_, _], _ => rfl
  have B : Bi mg := ⟨(PySem.W.mg_none_of X G z_len), (PySem.W.mg_none_of X G z_list), (PySem.W.mg_none_of X G z_tuple), (PySem.W.mg_none_of X G z_range), (PySem.W.mg_none_of X G z_isinstance), (PySem.W.mg_none_of X G z_str), (PySem.W.mg_none_of X G z_int), (PySem.W.mg_none_of X G z_bool), (PySem.W.mg_none_of X G z_all), (PySem.W.mg_none_of X G z_any), (PySem.W.mg_none_of X G z_zip), (PySem.W.mg_none_of X G z_dict), (PySem.W.mg_none_of X G z_set), (PySem.W.mg_none_of X G z_sorted), (PySem.W.mg_none_of X G z_reversed), (PySem.W.mg_none_of X G z_enumerate), (PySem.W.mg_none_of X G z_repr), (PySem.W.mg_none_of X G z_sum), (PySem.W.mg_none_of X G z_min), (PySem.W.mg_none_of X G z_max)⟩
  have TD : TxtD mg := ⟨(PySem.W.mg_none_of X G z_int), (PySem.W.mg_none_of X G z_list)⟩
  have TP : TxtP K mg f_draw f_pick := { toTxtD := TD, len := (PySem.W.mg_none_of X G z_len), gD := (PySem.W.mg_of X G a_draw), kD := k_draw, gP := (PySem.W.mg_of X G a_pick), kP := k_pick }
  have TK : TxtK K mg f_draw f_pick f_need := { toTxtP := TP, range := (PySem.W.mg_none_of X G z_range), tuple := (PySem.W.mg_none_of X G z_tuple), gN := (PySem.W.mg_of X G a_need), kN := k_need }
  have TT : TxtT K mg f_draw f_pick f_thing := { toTxtP := TP, range := (PySem.W.mg_none_of X G z_range), gT := (PySem.W.mg_of X G a_thing), kT := k_thing }
  have TPc : TxtPc mg := ⟨(PySem.W.mg_none_of X G z_list), (PySem.W.mg_none_of X G z_len), (PySem.W.mg_none_of X G z_isinstance), (PySem.W.mg_none_of X G z_tuple)⟩
  have TTx : TxtTx mg := { toTxtPc := TPc, range := (PySem.W.mg_none_of X G z_range), reversed := (PySem.W.mg_none_of X G z_reversed) }
  have TEx : TxtEx K mg f_pieces := { toTxtTx := TTx, gP := (PySem.W.mg_of X G a_pieces), kP := k_pieces }
  have TLI : TxtLI mg := ⟨(PySem.W.mg_none_of X G z_isinstance), (PySem.W.mg_none_of X G z_str), (PySem.W.mg_none_of X G z_len)⟩
  have TLT : TxtLT K mg f_ltext := ⟨(PySem.W.mg_none_of X G z_isinstance), (PySem.W.mg_none_of X G z_str), (PySem.W.mg_of X G a_ltext), k_ltext⟩
  have TLO : TxtLO K mg f_llot := ⟨(PySem.W.mg_none_of X G z_isinstance), (PySem.W.mg_none_of X G z_tuple), (PySem.W.mg_of X G a_llot), k_llot⟩
  have TLP : TxtLP K mg f_lput := ⟨(PySem.W.mg_none_of X G z_isinstance), (PySem.W.mg_none_of X G z_str), (PySem.W.mg_none_of X G z_tuple), (PySem.W.mg_of X G a_lput), k_lput⟩
  have clB : Cls K CB := ⟨bpg, bhd, bpo, bsa⟩
  have clR : Cls K CR := ⟨rpg, rhd, rpo, rsa⟩
  have TEq : TxtEq K mg CB := ⟨clB, bnK, bnO, (PySem.W.mg_none_of X G z_isinstance), (PySem.W.mg_of X G a_CB), bca, icn, ict, bcm⟩
  have TTO : TxtTO K mg f_pieces f_texts := ⟨(PySem.W.mg_none_of X G z_len), (PySem.W.mg_of X G a_pieces), k_pieces, (PySem.W.mg_of X G a_texts), k_texts⟩
  have TRS : TxtRS K mg CR f_textsof := ⟨clR, rnT, (PySem.W.mg_none_of X G z_len), (PySem.W.mg_of X G a_textsof), k_textsof⟩
  have TRE : TxtRE K mg CB CR f_beq f_rstr := ⟨clR, rnB, (PySem.W.mg_none_of X G z_isinstance), (PySem.W.mg_none_of X G z_str), (PySem.W.mg_of X G a_CR), rca, icn, ict, rcm, a_beq, i_beq, a_rstr, i_rstr⟩
  have TRX : TxtRX K mg CR f_exch := ⟨clR, rnB, rnT, (PySem.W.mg_none_of X G z_tuple), (PySem.W.mg_of X G a_CR), (PySem.W.mg_of X G a_exch), k_exch⟩
  have TRM : TxtRM K mg CR f_rexch := ⟨clR, ⟨a_rexch, i_rexch, k_rexch⟩, (PySem.W.mg_none_of X G z_dict)⟩
  have TTs : TxtTs K mg f_draw f_pick f_thing := ⟨(PySem.W.mg_none_of X G z_range), ⟨(PySem.W.mg_of X G a_draw), k_draw⟩, ⟨(PySem.W.mg_of X G a_pick), k_pick⟩, ⟨(PySem.W.mg_of X G a_thing), k_thing⟩⟩
  have TLs : TxtLs K mg CB CR f_beq := ⟨clR, rnB, rnT, (PySem.W.mg_none_of X G z_isinstance), (PySem.W.mg_none_of X G z_repr), (PySem.W.mg_of X G a_CR), rca, icn, ict, rcm, a_beq, i_beq⟩
  have TWy : TxtWy K mg f_draw f_pick := ⟨(PySem.W.mg_none_of X G z_range), (PySem.W.mg_none_of X G z_list), (PySem.W.mg_none_of X G z_len), (PySem.W.mg_none_of X G z_tuple), ⟨(PySem.W.mg_of X G a_draw), k_draw⟩, ⟨(PySem.W.mg_of X G a_pick), k_pick⟩⟩
  have TLR : TxtLR K mg CR f_llot f_ltext f_lname f_lput f_lis f_rrepl f_rren := ⟨clR, rnP, rnN, ⟨a_rrepl, i_rrepl, k_rrepl⟩, ⟨a_rren, i_rren, k_rren⟩, (PySem.W.mg_none_of X G z_tuple), (PySem.W.mg_none_of X G z_sorted), (PySem.W.mg_none_of X G z_repr), (PySem.W.mg_none_of X G z_dict), (PySem.W.mg_none_of X G z_list), (PySem.W.mg_none_of X G z_sum), ⟨(PySem.W.mg_of X G a_llot), k_llot⟩, ⟨(PySem.W.mg_of X G a_ltext), k_ltext⟩, ⟨(PySem.W.mg_of X G a_lname), k_lname⟩, ⟨(PySem.W.mg_of X G a_lput), k_lput⟩, ⟨(PySem.W.mg_of X G a_lis), k_lis⟩⟩
  have TL : TxtL K mg CB CR f_deck f_kit f_things f_thing f_draw f_pick f_ways f_right f_rren f_req := ⟨clR, ⟨a_rren, i_rren, k_rren⟩, (PySem.W.mg_none_of X G z_range), (PySem.W.mg_none_of X G z_tuple), (PySem.W.mg_none_of X G z_zip), (PySem.W.mg_of X G a_CB), (PySem.W.mg_of X G a_CR), ⟨(PySem.W.mg_of X G a_deck), k_deck⟩, ⟨(PySem.W.mg_of X G a_kit), k_kit⟩, ⟨(PySem.W.mg_of X G a_things), k_things⟩, ⟨(PySem.W.mg_of X G a_thing), k_thing⟩, ⟨(PySem.W.mg_of X G a_draw), k_draw⟩, ⟨(PySem.W.mg_of X G a_pick), k_pick⟩, ⟨(PySem.W.mg_of X G a_ways), k_ways⟩, ⟨(PySem.W.mg_of X G a_right), k_right⟩, a_req, i_req, rne, rcm⟩
  have kRep : ∀ (s : Shared) (a u v : Value), BindsTo s (PySem.W.fnOf "replaced" "Row.replaced" (defArgs sRRepl) (defBody sRRepl) (defScope sRRepl) .none kV_rrepl dc_rrepl pm_rrepl an_rrepl cd_rrepl ct_rrepl) ⟨[a], [(PySem.Str.ofString "thing", u), (PySem.Str.ofString "name", v)]⟩ ((["self", "name", "thing"] : List Str).zip [a, v, u]) := fun s a u v => .of_eq rfl
  have kRen : ∀ (s : Shared) (a u : Value), BindsTo s (PySem.W.fnOf "renamed" "Row.renamed" (defArgs sRRen) (defBody sRRen) (defScope sRRen) .none kV_rren dc_rren pm_rren an_rren cd_rren ct_rren) ⟨[a], [(PySem.Str.ofString "pairs", u)]⟩ ((["self", "pairs"] : List Str).zip [a, u]) := fun s a u => .of_eq rfl
  refine ⟨(PySem.W.fnOf "law" "law" (defArgs sLaw) (defBody sLaw) (defScope sLaw) .none kV_law dc_law pm_law an_law cd_law ct_law), fun s v => .of_eq rfl, fun base _ _ => ?_⟩
  have GD : FnOk P w K mg base CX0 1 f_draw _ ["_law_deck_here", "_law_below"] spDraw := ok_draw F_draw TD
  have GP := ok_pick F_pick GD b_draw TP
  have GN := ok_need F_need GD b_draw GP b_pick TP
  have GT := ok_kit F_kit GD b_draw GP b_pick GN b_need TK
  have Z_thing : FnOk P w K mg base CX0 2 f_thing (PySem.W.fnOf "_law_thing" "_law_thing" (defArgs sThing) (defBody sThing) (defScope sThing) .none kV_thing dc_thing pm_thing an_thing cd_thing ct_thing) ["_law_deck_here", "_law_makes", "_law_leaves", "_law_top", "_law_deep"] (fun _ _ _ _ => False) := ⟨fun _ _ _ _ z => z.elim, fun _ _ _ _ _ _ _ _ _ _ _ _ _ z => z.elim⟩
  have T0 := ok_thing (j := 0) (n := 0) F_thing GD b_draw GP b_pick b_thing TT Z_thing (fun m z => absurd z (by omega))
  have T1 := ok_thing (j := 1) (n := 1) F_thing GD b_draw GP b_pick b_thing TT T0 (fun m z => (by omega : m = 0) ▸ fun _ _ _ _ q => q)
  have T2 := ok_thing (j := 2) (n := 2) F_thing GD b_draw GP b_pick b_thing TT T1 (fun m z => (by omega : m = 1) ▸ fun _ _ _ _ q => q)
  have T3 := ok_thing (j := 3) (n := 3) F_thing GD b_draw GP b_pick b_thing TT T2 (fun m z => (by omega : m = 2) ▸ fun _ _ _ _ q => q)
  have T4 := ok_thing (j := 4) (n := 4) F_thing GD b_draw GP b_pick b_thing TT T3 (fun m z => (by omega : m = 3) ▸ fun _ _ _ _ q => q)
  have T5 := ok_thing (j := 5) (n := 5) F_thing GD b_draw GP b_pick b_thing TT T4 (fun m z => (by omega : m = 4) ▸ fun _ _ _ _ q => q)
  have T6 := ok_thing (j := 6) (n := 6) F_thing GD b_draw GP b_pick b_thing TT T5 (fun m z => (by omega : m = 5) ▸ fun _ _ _ _ q => q)
  have T7 := ok_thing (j := 7) (n := 7) F_thing GD b_draw GP b_pick b_thing TT T6 (fun m z => (by omega : m = 6) ▸ fun _ _ _ _ q => q)
  have T8 := ok_thing (j := 8) (n := 8) F_thing GD b_draw GP b_pick b_thing TT T7 (fun m z => (by omega : m = 7) ▸ fun _ _ _ _ q => q)
  have T9 := ok_thing (j := 9) (n := 9) F_thing GD b_draw GP b_pick b_thing TT T8 (fun m z => (by omega : m = 8) ▸ fun _ _ _ _ q => q)
  have Z_ltext : FnOk P w K mg base CX0 0 f_ltext (PySem.W.fnOf "_law_text" "_law_text" (defArgs sLText) (defBody sLText) (defScope sLText) .none kV_ltext dc_ltext pm_ltext an_ltext cd_ltext ct_ltext) ["_law_it"] (fun _ _ _ _ => False) := ⟨fun _ _ _ _ z => z.elim, fun _ _ _ _ _ _ _ _ _ _ _ _ _ z => z.elim⟩
  have U_ltext0 := ok_lText (n := 0) F_ltext TLT b_ltext Z_ltext (fun m z => absurd z (by omega))
  have U_ltext1 := ok_lText (n := 1) F_ltext TLT b_ltext U_ltext0 (fun m z => (by omega : m = 0) ▸ fun _ _ _ _ q => q)
  have U_ltext2 := ok_lText (n := 2) F_ltext TLT b_ltext U_ltext1 (fun m z => (by omega : m = 1) ▸ fun _ _ _ _ q => q)
  have U_ltext3 := ok_lText (n := 3) F_ltext TLT b_ltext U_ltext2 (fun m z => (by omega : m = 2) ▸ fun _ _ _ _ q => q)
  have U_ltext4 := ok_lText (n := 4) F_ltext TLT b_ltext U_ltext3 (fun m z => (by omega : m = 3) ▸ fun _ _ _ _ q => q)
  have U_ltext5 := ok_lText (n := 5) F_ltext TLT b_ltext U_ltext4 (fun m z => (by omega : m = 4) ▸ fun _ _ _ _ q => q)
  have U_ltext6 := ok_lText (n := 6) F_ltext TLT b_ltext U_ltext5 (fun m z => (by omega : m = 5) ▸ fun _ _ _ _ q => q)
  have U_ltext7 := ok_lText (n := 7) F_ltext TLT b_ltext U_ltext6 (fun m z => (by omega : m = 6) ▸ fun _ _ _ _ q => q)
  have U_ltext8 := ok_lText (n := 8) F_ltext TLT b_ltext U_ltext7 (fun m z => (by omega : m = 7) ▸ fun _ _ _ _ q => q)
  have U_ltext9 := ok_lText (n := 9) F_ltext TLT b_ltext U_ltext8 (fun m z => (by omega : m = 8) ▸ fun _ _ _ _ q => q)
  have U_ltext10 := ok_lText (n := 10) F_ltext TLT b_ltext U_ltext9 (fun m z => (by omega : m = 9) ▸ fun _ _ _ _ q => q)
  have U_ltext11 := ok_lText (n := 11) F_ltext TLT b_ltext U_ltext10 (fun m z => (by omega : m = 10) ▸ fun _ _ _ _ q => q)
  have U_ltext12 := ok_lText (n := 12) F_ltext TLT b_ltext U_ltext11 (fun m z => (by omega : m = 11) ▸ fun _ _ _ _ q => q)
  have Z_llot : FnOk P w K mg base CX0 0 f_llot (PySem.W.fnOf "_law_lot" "_law_lot" (defArgs sLLot) (defBody sLLot) (defScope sLLot) .none kV_llot dc_llot pm_llot an_llot cd_llot ct_llot) ["_law_it"] (fun _ _ _ _ => False) := ⟨fun _ _ _ _ z => z.elim, fun _ _ _ _ _ _ _ _ _ _ _ _ _ z => z.elim⟩
  have U_llot0 := ok_lLot (n := 0) F_llot TLO b_llot Z_llot (fun m z => absurd z (by omega))
  have U_llot1 := ok_lLot (n := 1) F_llot TLO b_llot U_llot0 (fun m z => (by omega : m = 0) ▸ fun _ _ _ _ q => q)
  have U_llot2 := ok_lLot (n := 2) F_llot TLO b_llot U_llot1 (fun m z => (by omega : m = 1) ▸ fun _ _ _ _ q => q)
  have U_llot3 := ok_lLot (n := 3) F_llot TLO b_llot U_llot2 (fun m z => (by omega : m = 2) ▸ fun _ _ _ _ q => q)
  have U_llot4 := ok_lLot (n := 4) F_llot TLO b_llot U_llot3 (fun m z => (by omega : m = 3) ▸ fun _ _ _ _ q => q)
  have U_llot5 := ok_lLot (n := 5) F_llot TLO b_llot U_llot4 (fun m z => (by omega : m = 4) ▸ fun _ _ _ _ q => q)
  have U_llot6 := ok_lLot (n := 6) F_llot TLO b_llot U_llot5 (fun m z => (by omega : m = 5) ▸ fun _ _ _ _ q => q)
  have U_llot7 := ok_lLot (n := 7) F_llot TLO b_llot U_llot6 (fun m z => (by omega : m = 6) ▸ fun _ _ _ _ q => q)
  have U_llot8 := ok_lLot (n := 8) F_llot TLO b_llot U_llot7 (fun m z => (by omega : m = 7) ▸ fun _ _ _ _ q => q)
  have U_llot9 := ok_lLot (n := 9) F_llot TLO b_llot U_llot8 (fun m z => (by omega : m = 8) ▸ fun _ _ _ _ q => q)
  have U_llot10 := ok_lLot (n := 10) F_llot TLO b_llot U_llot9 (fun m z => (by omega : m = 9) ▸ fun _ _ _ _ q => q)
  have U_llot11 := ok_lLot (n := 11) F_llot TLO b_llot U_llot10 (fun m z => (by omega : m = 10) ▸ fun _ _ _ _ q => q)
  have U_llot12 := ok_lLot (n := 12) F_llot TLO b_llot U_llot11 (fun m z => (by omega : m = 11) ▸ fun _ _ _ _ q => q)
  have Z_lput : FnOk P w K mg base CX0 0 f_lput (PySem.W.fnOf "_law_put" "_law_put" (defArgs sLPut) (defBody sLPut) (defScope sLPut) .none kV_lput dc_lput pm_lput an_lput cd_lput ct_lput) ["_law_it", "_law_others"] (fun _ _ _ _ => False) := ⟨fun _ _ _ _ z => z.elim, fun _ _ _ _ _ _ _ _ _ _ _ _ _ z => z.elim⟩
  have U_lput0 := ok_lPut (n := 0) F_lput TLP b_lput Z_lput (fun m z => absurd z (by omega))
  have U_lput1 := ok_lPut (n := 1) F_lput TLP b_lput U_lput0 (fun m z => (by omega : m = 0) ▸ fun _ _ _ _ q => q)
  have U_lput2 := ok_lPut (n := 2) F_lput TLP b_lput U_lput1 (fun m z => (by omega : m = 1) ▸ fun _ _ _ _ q => q)
  have U_lput3 := ok_lPut (n := 3) F_lput TLP b_lput U_lput2 (fun m z => (by omega : m = 2) ▸ fun _ _ _ _ q => q)
  have U_lput4 := ok_lPut (n := 4) F_lput TLP b_lput U_lput3 (fun m z => (by omega : m = 3) ▸ fun _ _ _ _ q => q)
  have U_lput5 := ok_lPut (n := 5) F_lput TLP b_lput U_lput4 (fun m z => (by omega : m = 4) ▸ fun _ _ _ _ q => q)
  have U_lput6 := ok_lPut (n := 6) F_lput TLP b_lput U_lput5 (fun m z => (by omega : m = 5) ▸ fun _ _ _ _ q => q)
  have U_lput7 := ok_lPut (n := 7) F_lput TLP b_lput U_lput6 (fun m z => (by omega : m = 6) ▸ fun _ _ _ _ q => q)
  have U_lput8 := ok_lPut (n := 8) F_lput TLP b_lput U_lput7 (fun m z => (by omega : m = 7) ▸ fun _ _ _ _ q => q)
  have U_lput9 := ok_lPut (n := 9) F_lput TLP b_lput U_lput8 (fun m z => (by omega : m = 8) ▸ fun _ _ _ _ q => q)
  have U_lput10 := ok_lPut (n := 10) F_lput TLP b_lput U_lput9 (fun m z => (by omega : m = 9) ▸ fun _ _ _ _ q => q)
  have U_lput11 := ok_lPut (n := 11) F_lput TLP b_lput U_lput10 (fun m z => (by omega : m = 10) ▸ fun _ _ _ _ q => q)
  have U_lput12 := ok_lPut (n := 12) F_lput TLP b_lput U_lput11 (fun m z => (by omega : m = 11) ▸ fun _ _ _ _ q => q)
  have GLN := ok_lName (P := P) (w := w) (base := base) F_lname TLI
  have U_word : Use P w K mg base 1 "is_word" ["thing"] (spIs K isW) := ⟨_, _, ok_Word F_word B ⟨_, PySem.W.mg_of X G g_longest, rI⟩, b_word, (PySem.W.mg_of X G a_word), k_word⟩
  have U_name : Use P w K mg base 1 "is_name" ["thing"] (spIs K isN) := ⟨_, _, ok_Name F_name B ⟨_, PySem.W.mg_of X G g_longest, rI⟩, b_name, (PySem.W.mg_of X G a_name), k_name⟩
  have GPc := ok_Pieces (P := P) (w := w) (base := base) F_pieces B
  have GTx := ok_Texts (P := P) (w := w) (base := base) F_texts B
  have U_texts : Use P w K mg base 1 "all_texts" ["pieces"] (spTexts K) := ⟨_, _, GTx, b_texts, (PySem.W.mg_of X G a_texts), k_texts⟩
  have U_int : Use P w K mg base 1 "_is_integer" ["value", "low", "high"] spInt := ⟨_, _, ok_Int F_int B, b_int, (PySem.W.mg_of X G a_int), k_int⟩
  have U_one : Use P w K mg base 1 "_has_one_part" ["counts", "kind"] spOne := ⟨_, _, ok_One F_one B, b_one, (PySem.W.mg_of X G a_one), k_one⟩
  have U_needq : Use P w K mg base 2 "_is_need" ["counts", "last", "need"] (spNeedQ K) := ⟨_, _, ok_NeedQ F_needq B U_int U_one, b_needq, (PySem.W.mg_of X G a_needq), k_needq⟩
  have U_openq : Use P w K mg base 3 "_is_opening" ["counts", "opening"] (spOpenQ K) := ⟨_, _, ok_OpenQ F_openq B U_word U_int U_needq ⟨_, PySem.W.mg_of X G g_mostn, rI⟩, b_openq, (PySem.W.mg_of X G a_openq), k_openq⟩
  have U_rkinds : Use P w K mg base 2 "_right_kinds" ["kinds"] (spRK K) := ⟨_, _, ok_RKinds F_rkinds B U_word U_int ⟨_, PySem.W.mg_of X G g_mostp, rI⟩, b_rkinds, (PySem.W.mg_of X G a_rkinds), k_rkinds⟩
  have U_ropens : Use P w K mg base 4 "_right_openings" ["kinds", "openings"] (spRO K) := ⟨_, _, ok_ROpens F_ropens B U_openq, b_ropens, (PySem.W.mg_of X G a_ropens), k_ropens⟩
  have U_has : Use P w K mg base 1 "_has_all_parts" ["counts", "thing"] (spHas2 K) := ⟨_, _, ok_Has F_has B, b_has, (PySem.W.mg_of X G a_has), k_has⟩
  have U_pok : Use P w K mg base 2 "pieces_of_kinds" ["counts", "things"] (spPok K) := ⟨_, _, ok_Pok F_pok B U_word U_name U_has, b_pok, (PySem.W.mg_of X G a_pok), k_pok⟩
  have U_nap : Use P w K mg base 1 "_names_and_pieces" ["by_text"] (spNap K) := ⟨_, _, ok_Nap F_nap B, b_nap, (PySem.W.mg_of X G a_nap), k_nap⟩
  have GB := (ok_BInit clB bnK bnO F_binit B U_rkinds U_ropens).mono (by decide : 5 ≤ 6)
  have MB : Mk K CB f_binit := ⟨bmk, a_binit, i_binit, bkc⟩
  have GBE := ok_eq (P := P) (w := w) (base := base) F_beq TEq
  have GRI := (ok_RInit clB bnK clR rnB rnT rnN rnP F_rinit B U_pok U_texts U_nap).mono (by decide : 3 ≤ 4)
  have MR : Mk K CR f_rinit := ⟨rmk, a_rinit, i_rinit, rkc⟩
  have GTo := ok_textsOf F_textsof TTO GPc b_pieces GTx b_texts
  have GRS := ok_rStr (CB := CB) F_rstr TRS GTo b_textsof
  have GRE := ok_rEq F_req TRE GBE b_beq GRS b_rstr
  have GEx := ok_exch F_exch TEx GPc b_pieces
  have GRX := ok_rExch F_rexch TRX GEx b_exch MR GRI b_rinit
  have GRep := ok_rRepl F_rrepl TRM GRX b_rexch
  have GRen := ok_rRen F_rren TRM GRX b_rexch
  have GTs := ok_things F_things TTs GD b_draw GP b_pick T9 b_thing
  have GLs := ok_lIs F_lis TLs GBE b_beq
  have GWy := ok_ways F_ways TWy GD b_draw GP b_pick
  have GR := ok_lRight F_right TLR U_llot12 b_llot U_ltext12 b_ltext GLN b_lname U_lput12 b_lput GLs b_lis GRep b_rrepl kRep GRen b_rren kRen
  exact ok_law F_law TL (ok_deck F_deck TD) b_deck GT b_kit GTs b_things T2 b_thing GD b_draw GP b_pick GWy b_ways GR b_right MB GB b_binit MR GRI b_rinit GRen b_rren GRE b_req
end
end K09

open PySem PySem.W PyProof.Rows
set_option Elab.async false
set_option maxRecDepth 100000 in
set_option maxHeartbeats 0 in
theorem PySem.Challenge.cw_sealedalike_k09_names_and_replacements_holds : PySem.Challenge.rw_sealedalike_k09_names_and_replacements.Holds := by
  w_on; o_law; k_head; (case hw => w_witness2)
  k_fill
  refine Mine.walkG (l := PySem.Challenge.rw_sealedalike_k09_names_and_replacements) (k := 15) (n := 63) (x := "_law_script") (sp := K09.spLaw) rfl (by decide) rfl ⟨rfl, by decide, by decide⟩ (fun w h Y => PySem.W.kIn_of Y) ?F (fun K H a ns hl _ hS => ⟨a, ns, rfl, hS, hl, fun _ => rfl⟩)
  case F =>
    intro w mg fa h KX G hmg
    refine' K09.all_mk KX G hmg ?q9a_deck ?q9l_deck ?q9c_deck ?q9k_deck ?q9a_draw ?q9l_draw ?q9c_draw ?q9k_draw ?q9a_pick ?q9l_pick ?q9c_pick ?q9k_pick ?q9a_need ?q9l_need ?q9c_need ?q9k_need ?q9a_kit ?q9l_kit ?q9c_kit ?q9k_kit ?q9a_thing ?q9l_thing ?q9c_thing ?q9k_thing ?q9a_things ?q9l_things ?q9c_things ?q9k_things ?q9a_ltext ?q9l_ltext ?q9c_ltext ?q9k_ltext ?q9a_lname ?q9l_lname ?q9c_lname ?q9k_lname ?q9a_llot ?q9l_llot ?q9c_llot ?q9k_llot ?q9a_lput ?q9l_lput ?q9c_lput ?q9k_lput ?q9a_lis ?q9l_lis ?q9c_lis ?q9k_lis ?q9a_right ?q9l_right ?q9c_right ?q9k_right ?q9a_ways ?q9l_ways ?q9c_ways ?q9k_ways ?q9a_law ?q9l_law ?q9c_law ?q9k_law ?q9a_word ?q9l_word ?q9c_word ?q9k_word ?q9a_name ?q9l_name ?q9c_name ?q9k_name ?q9a_pieces ?q9l_pieces ?q9c_pieces ?q9k_pieces ?q9a_texts ?q9l_texts ?q9c_texts ?q9k_texts ?q9a_textsof ?q9l_textsof ?q9c_textsof ?q9k_textsof ?q9a_exch ?q9l_exch ?q9c_exch ?q9k_exch ?q9a_int ?q9l_int ?q9c_int ?q9k_int ?q9a_rkinds ?q9l_rkinds ?q9c_rkinds ?q9k_rkinds ?q9a_ropens ?q9l_ropens ?q9c_ropens ?q9k_ropens ?q9a_openq ?q9l_openq ?q9c_openq ?q9k_openq ?q9a_needq ?q9l_needq ?q9c_needq ?q9k_needq ?q9a_one ?q9l_one ?q9c_one ?q9k_one ?q9a_has ?q9l_has ?q9c_has ?q9k_has ?q9a_pok ?q9l_pok ?q9c_pok ?q9k_pok ?q9a_nap ?q9l_nap ?q9c_nap ?q9k_nap ?q9a_CB ?q9a_CR ?q9a_binit ?q9i_binit ?q9l_binit ?q9c_binit ?q9k_binit ?q9a_beq ?q9i_beq ?q9l_beq ?q9c_beq ?q9k_beq ?q9a_rinit ?q9i_rinit ?q9l_rinit ?q9c_rinit ?q9k_rinit ?q9a_req ?q9i_req ?q9l_req ?q9c_req ?q9k_req ?q9a_rstr ?q9i_rstr ?q9l_rstr ?q9c_rstr ?q9k_rstr ?q9a_rrepl ?q9i_rrepl ?q9l_rrepl ?q9c_rrepl ?q9k_rrepl ?q9a_rren ?q9i_rren ?q9l_rren ?q9c_rren ?q9k_rren ?q9a_rexch ?q9i_rexch ?q9l_rexch ?q9c_rexch ?q9k_rexch ?q9bpg ?q9bhd ?q9bpo ?q9bsa ?q9bmk ?q9bkc ?q9bnK ?q9bnO ?q9bca ?q9bcm ?q9rpg ?q9rhd ?q9rpo ?q9rsa ?q9rmk ?q9rkc ?q9rnB ?q9rnT ?q9rnN ?q9rnP ?q9rca ?q9rcm ?q9icn ?q9ict ?q9rne ?q9g_longest ?q9g_mostp ?q9g_mostn ?q9z_len ?q9z_list ?q9z_tuple ?q9z_range ?q9z_isinstance ?q9z_str ?q9z_int ?q9z_bool ?q9z_all ?q9z_any ?q9z_zip ?q9z_dict ?q9z_set ?q9z_sorted ?q9z_reversed ?q9z_enumerate ?q9z_repr ?q9z_sum ?q9z_min ?q9z_max 
    (case q9a_deck => k_is)
    (case q9l_deck => k_is)
    (case q9c_deck => k_is)
    (case q9k_deck => k_is)
    (case q9a_draw => k_is)
    (case q9l_draw => k_is)
    (case q9c_draw => k_is)
    (case q9k_draw => k_is)
    (case q9a_pick => k_is)
    (case q9l_pick => k_is)
    (case q9c_pick => k_is)
    (case q9k_pick => k_is)
    (case q9a_need => k_is)
    (case q9l_need => k_is)
    (case q9c_need => k_is)
    (case q9k_need => k_is)
    (case q9a_kit => k_is)
    (case q9l_kit => k_is)
    (case q9c_kit => k_is)
    (case q9k_kit => k_is)
    (case q9a_thing => k_is)
    (case q9l_thing => k_is)
    (case q9c_thing => k_is)
    (case q9k_thing => k_is)
    (case q9a_things => k_is)
    (case q9l_things => k_is)
    (case q9c_things => k_is)
    (case q9k_things => k_is)
    (case q9a_ltext => k_is)
    (case q9l_ltext => k_is)
    (case q9c_ltext => k_is)
    (case q9k_ltext => k_is)
    (case q9a_lname => k_is)
    (case q9l_lname => k_is)
    (case q9c_lname => k_is)
    (case q9k_lname => k_is)
    (case q9a_llot => k_is)
    (case q9l_llot => k_is)
    (case q9c_llot => k_is)
    (case q9k_llot => k_is)
    (case q9a_lput => k_is)
    (case q9l_lput => k_is)
    (case q9c_lput => k_is)
    (case q9k_lput => k_is)
    (case q9a_lis => k_is)
    (case q9l_lis => k_is)
    (case q9c_lis => k_is)
    (case q9k_lis => k_is)
    (case q9a_right => k_is)
    (case q9l_right => k_is)
    (case q9c_right => k_is)
    (case q9k_right => k_is)
    (case q9a_ways => k_is)
    (case q9l_ways => k_is)
    (case q9c_ways => k_is)
    (case q9k_ways => k_is)
    (case q9a_law => k_is)
    (case q9l_law => k_is)
    (case q9c_law => k_is)
    (case q9k_law => k_is)
    (case q9a_word => k_is)
    (case q9l_word => k_is)
    (case q9c_word => k_is)
    (case q9k_word => k_is)
    (case q9a_name => k_is)
    (case q9l_name => k_is)
    (case q9c_name => k_is)
    (case q9k_name => k_is)
    (case q9a_pieces => k_is)
    (case q9l_pieces => k_is)
    (case q9c_pieces => k_is)
    (case q9k_pieces => k_is)
    (case q9a_texts => k_is)
    (case q9l_texts => k_is)
    (case q9c_texts => k_is)
    (case q9k_texts => k_is)
    (case q9a_textsof => k_is)
    (case q9l_textsof => k_is)
    (case q9c_textsof => k_is)
    (case q9k_textsof => k_is)
    (case q9a_exch => k_is)
    (case q9l_exch => k_is)
    (case q9c_exch => k_is)
    (case q9k_exch => k_is)
    (case q9a_int => k_is)
    (case q9l_int => k_is)
    (case q9c_int => k_is)
    (case q9k_int => k_is)
    (case q9a_rkinds => k_is)
    (case q9l_rkinds => k_is)
    (case q9c_rkinds => k_is)
    (case q9k_rkinds => k_is)
    (case q9a_ropens => k_is)
    (case q9l_ropens => k_is)
    (case q9c_ropens => k_is)
    (case q9k_ropens => k_is)
    (case q9a_openq => k_is)
    (case q9l_openq => k_is)
    (case q9c_openq => k_is)
    (case q9k_openq => k_is)
    (case q9a_needq => k_is)
    (case q9l_needq => k_is)
    (case q9c_needq => k_is)
    (case q9k_needq => k_is)
    (case q9a_one => k_is)
    (case q9l_one => k_is)
    (case q9c_one => k_is)
    (case q9k_one => k_is)
    (case q9a_has => k_is)
    (case q9l_has => k_is)
    (case q9c_has => k_is)
    (case q9k_has => k_is)
    (case q9a_pok => k_is)
    (case q9l_pok => k_is)
    (case q9c_pok => k_is)
    (case q9k_pok => k_is)
    (case q9a_nap => k_is)
    (case q9l_nap => k_is)
    (case q9c_nap => k_is)
    (case q9k_nap => k_is)
    (case q9a_CB => k_is)
    (case q9a_CR => k_is)
    (case q9a_binit => k_is)
    (case q9i_binit => k_is)
    (case q9l_binit => k_is)
    (case q9c_binit => k_is)
    (case q9k_binit => k_is)
    (case q9a_beq => k_is)
    (case q9i_beq => k_is)
    (case q9l_beq => k_is)
    (case q9c_beq => k_is)
    (case q9k_beq => k_is)
    (case q9a_rinit => k_is)
    (case q9i_rinit => k_is)
    (case q9l_rinit => k_is)
    (case q9c_rinit => k_is)
    (case q9k_rinit => k_is)
    (case q9a_req => k_is)
    (case q9i_req => k_is)
    (case q9l_req => k_is)
    (case q9c_req => k_is)
    (case q9k_req => k_is)
    (case q9a_rstr => k_is)
    (case q9i_rstr => k_is)
    (case q9l_rstr => k_is)
    (case q9c_rstr => k_is)
    (case q9k_rstr => k_is)
    (case q9a_rrepl => k_is)
    (case q9i_rrepl => k_is)
    (case q9l_rrepl => k_is)
    (case q9c_rrepl => k_is)
    (case q9k_rrepl => k_is)
    (case q9a_rren => k_is)
    (case q9i_rren => k_is)
    (case q9l_rren => k_is)
    (case q9c_rren => k_is)
    (case q9k_rren => k_is)
    (case q9a_rexch => k_is)
    (case q9i_rexch => k_is)
    (case q9l_rexch => k_is)
    (case q9c_rexch => k_is)
    (case q9k_rexch => k_is)
    (case q9bpg => k_is)
    (case q9bhd => k_is)
    (case q9bpo => k_is)
    (case q9bsa => k_is)
    (case q9bmk => k_is)
    (case q9bkc => k_is)
    (case q9bnK => k_is)
    (case q9bnO => k_is)
    (case q9bca => k_is)
    (case q9bcm => k_is)
    (case q9rpg => k_is)
    (case q9rhd => k_is)
    (case q9rpo => k_is)
    (case q9rsa => k_is)
    (case q9rmk => k_is)
    (case q9rkc => k_is)
    (case q9rnB => k_is)
    (case q9rnT => k_is)
    (case q9rnN => k_is)
    (case q9rnP => k_is)
    (case q9rca => k_is)
    (case q9rcm => k_is)
    (case q9icn => k_is)
    (case q9ict => k_is)
    (case q9rne => k_is)
    (case q9g_longest => k_is)
    (case q9g_mostp => k_is)
    (case q9g_mostn => k_is)
    (case q9z_len => k_is)
    (case q9z_list => k_is)
    (case q9z_tuple => k_is)
    (case q9z_range => k_is)
    (case q9z_isinstance => k_is)
    (case q9z_str => k_is)
    (case q9z_int => k_is)
    (case q9z_bool => k_is)
    (case q9z_all => k_is)
    (case q9z_any => k_is)
    (case q9z_zip => k_is)
    (case q9z_dict => k_is)
    (case q9z_set => k_is)
    (case q9z_sorted => k_is)
    (case q9z_reversed => k_is)
    (case q9z_enumerate => k_is)
    (case q9z_repr => k_is)
    (case q9z_sum => k_is)
    (case q9z_min => k_is)
    (case q9z_max => k_is)

