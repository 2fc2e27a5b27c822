import PyProof.Rows.All
import Wide.All
import OpenK.AllK
import Wide.FinOn
import PyProof.ReprRoads
import KE.KExcIs
import KE.KExcInit
import HandS.ForMost
import HandS.Exc
import HandS.TryMany
import HandS.ExcOwn
import HandS.ExcInit
import HandS.IsInst
import HandS.Style
import HandS.ExcValue
import KE.KDictPairs
import HandS.OwnEq
import KE.KCallOwn
import HandS.ClsMeth
import HandS.More
import KE.GoesEnumKw
import HandS.Text
import PyProof.ReprText
import HandS.SetTxt0
import HandS.SetBool
import HandS.Strs
import PyProof.Rows.SortShellAny
import KE.KDictZip
import HandS.Conv
import HandS.SetFor
import PyProof.SumWalkG
import PyProof.FactsAll.subtypes_4
import PyProof.Rows.SeqMore
import PyProof.InstEq
import PyProof.FactsAll.range_iterator_1
import HandS.RevTup
import KE.GoesMore
import KE.GoesEnum
import HandS.Walk
import HandS.Codes
import HandS.Star
import HandS.RaiseMore
import HandS.FStr
import HandS.RevRange
import HandS.TupAny
import HandS.Deep
import HandS.TryOnly
import PySem.Challenge.RW_sealedalike_k12_the_standard_book
set_option Elab.async false
set_option linter.all false
set_option maxRecDepth 100000
set_option maxHeartbeats 2000000
namespace Mine
open PySem PySem.Spec PyProof.Rows L2

/-- the chain of classes above the package's own errors -/
abbrev chain : List Value := [.type "Exception", .type "BaseException", .type "object"]

/-- what the top says of an error class, whoever reads its instances -/
structure ErrA (K : PySem.W.Frag) (C : Addr) : Prop where
  kp : PySem.W.keepIn K (.ref C) = true
  cl : PySem.W.isClsIn K C = true
  ga : PySem.W.findIn K (.ref C) "__getattribute__" = some (some (.builtin "BaseException.__getattribute__"))
  gg : PySem.W.findIn K (.ref C) "__getattr__" = some none
  su : PySem.W.subIn K (.ref C) (.type "BaseException") = some true
  ca : PySem.W.findIn K (.ref C) "__class__" = some (some (.builtin "object.__class__"))
  cn : PySem.W.specialIn K (.builtin "object.__class__") "__get__" = some (some (.builtin "getset_descriptor.__get__"))
  ct : PySem.W.takesIn K (.builtin "object.__class__") = some true
  cm : PySem.W.mroIn K C (.type "object") = some true
  ty : PySem.W.typeIn K (.ref C) = some (.type "type")
  hd : PySem.W.hasDictIn K C = true

/-- an error object at a, of the class at C: bare, or with its dict -/
def EAt (H : Hp) (a C : Addr) : Option (Addr × List (Str × V)) → Prop
  | none => H a = some (exo a C none)
  | some (dx, fs) => H a = some (exo a C (some dx)) ∧ H dx = some (exd dx fs)

theorem EAt.inst {X : Cx} {pins : List (Addr × Obj)} {σ : L2.St} {H : Hp} {s : Shared} {a C : Addr} {o : Option (Addr × List (Str × V))} (I : Inv X pins σ H s) (h : EAt H a C o) :
    ∃ ox od, PySem.W.InstAt s.heap a ox C od := by
  cases o with
  | none =>
    obtain ⟨t, e⟩ := exo_at I.hok h
    exact ⟨_, none, e, rfl, rfl, trivial⟩
  | some p =>
    obtain ⟨dx, fs⟩ := p
    obtain ⟨t, e⟩ := exo_at I.hok h.1
    obtain ⟨m, ⟨od, es, ep, e2, _⟩, _⟩ := exd_at I.hok h.2
    exact ⟨_, some od, e, rfl, rfl, e2⟩

/-! isinstance of an error that is held -/
def rIs (K : PySem.W.Frag) : List V → Hp → VK → Prop := fun xs H Q => ∃ (a C : Addr) (o : Option (Addr × List (Str × V))) (c : V) (u : Value) (b : Bool),
  xs = [.ref a, c] ∧ EAt H a C o ∧ ErrA K C ∧ ClsV c u ∧ PySem.W.kitOne K (.ref C) u = some b ∧ Q (.bl b) H
def rIsMany (K : PySem.W.Frag) : List V → Hp → VK → Prop := fun xs H Q => ∃ (a C tp : Addr) (o : Option (Addr × List (Str × V))) (cs : List V) (us : List Value) (b : Bool),
  xs = [.ref a, .ref tp] ∧ EAt H a C o ∧ ErrA K C ∧ H tp = some (.tup cs) ∧ Paired ClsV cs us ∧ PySem.W.kitAny K (.ref C) us = some b ∧ Q (.bl b) H
theorem isOne {X : Cx} : CallR X (.builtin "isinstance") (rIs X.K) := by
  intro pins s σ H xs us Q I r h
  obtain ⟨a, C, o, c, u, b, rfl, ha, T, k, e, q⟩ := h
  obtain ⟨u1, u2, rfl, r1, r2⟩ := vals2 r
  have e2 := k.eq r2
  subst e2
  cases (show u1 = Value.ref a from r1)
  obtain ⟨ox, od, J⟩ := ha.inst I
  have Z : PySem.W.KitX X.K (.ref a) (.ref C) (fun h => PySem.W.InstAt h a ox C od) := PySem.W.kitx_exc T.cl T.ga T.gg T.su T.ca T.cn T.ct T.cm
  exact PySem.W.kia_one Z I.kIn J e (fun z => nomatch z) fun tk => ⟨.bl b, H, I.tok tk, rfl, q⟩
theorem isMany {X : Cx} : CallR X (.builtin "isinstance") (rIsMany X.K) := by
  intro pins s σ H xs us Q I r h
  obtain ⟨a, C, tp, o, cs, ws, b, rfl, ha, T, hT, k, e, q⟩ := h
  obtain ⟨u1, u2, rfl, r1, r2⟩ := vals2 r
  cases (show u1 = Value.ref a from r1)
  cases (show u2 = Value.ref tp from r2)
  obtain ⟨ox, od, J⟩ := ha.inst I
  obtain ⟨_, its, rv, o', h1, h2, n, h3⟩ := (show ObjOk X.prog X.w H s.heap tp (.tup cs) from I.hok tp _ hT)
  have e3 := ClsV.all k rv
  subst e3
  obtain ⟨oc, od', dt, sl⟩ := o'
  simp only at h2 h3
  subst h2 h3
  have Z : PySem.W.KitX X.K (.ref a) (.ref C) (fun h => PySem.W.InstAt h a ox C od) := PySem.W.kitx_exc T.cl T.ga T.gg T.su T.ca T.cn T.ct T.cm
  exact PySem.W.kia_tup Z I.kIn J h1 e (fun z => nomatch z) fun tk => ⟨.bl b, H, I.tok tk, rfl, q⟩

/-! a field of an error that is held -/
def tFld (K : PySem.W.Frag) (n : Str) (te : TE) : TE := fun σ H Q => te σ H fun x H1 => ∃ (a C dx : Addr) (fs : List (Str × V)) (v : V), x = .ref a ∧ EAt H1 a C (some (dx, fs)) ∧ ErrA K C ∧ PySem.W.findIn K (.ref C) n = some none ∧ fs.lookup n = some v ∧ Q v H1
theorem pe_efld {X : Cx} {e : Expr} {te : TE} {pos : Pos} {n : Str} (he : PE X e te) (hb : attributeBase e n X.env (eval e X.env) = eval e X.env := by rfl) : PE X (.Attribute e n pos) (tFld X.K n te) := by
  refine ⟨fun pins s σ H Q I h => ?_⟩
  refine attr_of hb (thn (he.run pins s σ H _ I h) fun u s1 hh => ?_)
  obtain ⟨x, H1, I1, rx, a, C, dx, fs, v, ex, ea, T, hno, l, q⟩ := hh
  subst ex
  obtain rfl : u = Value.ref a := rx
  obtain ⟨t, hx⟩ := exo_at I1.hok ea.1
  obtain ⟨mA, hns, hr⟩ := exd_at I1.hok ea.2
  obtain ⟨od, ho, hl⟩ := lookIn_ns hns
  obtain ⟨u, hu, ru⟩ := RelO.some_of (v := v) (o := mA n) (by rw [← l]; exact hr n)
  have J : PySem.W.InstAt s1.heap a _ C (some od) := ⟨hx, rfl, rfl, ho⟩
  exact HandSPX.exc_get I1.kIn J T.ga T.gg T.su (PySem.W.findObj_own T.hd hno rfl (by rw [hl, hu])) (handed_of ru) ⟨v, H1, I1.tok _, ru, q⟩

/-! two new objects beside all that was there: an error and its dict -/
theorem inv_two {X : Cx} {pins : List (Addr × Obj)} {σ : L2.St} {H : Hp} {s : Shared} {h' : Heap} {a dx : Addr} {o u : HO} {tk : Nat} (I : Inv X pins σ H s) (k : ∀ b z, s.heap.get? b = some z → h'.get? b = some z) (ha : s.heap.objs.size ≤ a) (hd : s.heap.objs.size ≤ dx) (ne : dx ≠ a)
    (oa : ObjOk X.prog X.w (upd (upd H dx u) a o) h' a o) (ou : ObjOk X.prog X.w (upd (upd H dx u) a o) h' dx u) : Inv X pins σ (upd (upd H dx u) a o) { s with heap := h', toks := tk } := by
  have na := I.hok.fresh ha
  have nd := I.hok.fresh hd
  have kept : ∀ {b : Addr} {z : HO}, H b = some z → upd (upd H dx u) a o b = some z := fun {b z} e => by
    rw [upd_ne (ne_of_none e na), upd_ne (ne_of_none e nd)]
    exact e
  have un : Un X.fs [] H (upd (upd H dx u) a o) s.heap h' := {
    keep := fun b z e _ _ _ => k b z e
    slot := fun b z e _ _ _ => ⟨z.slots, k b z e⟩
    free := fun b z e n _ => by
      have lt := Heap.lt_size e
      rw [upd_ne (Nat.ne_of_lt (Nat.lt_of_lt_of_le lt ha)), upd_ne (Nat.ne_of_lt (Nat.lt_of_lt_of_le lt hd))]
      exact n
    there := fun b z e _ => ⟨z, k b z e⟩
    tups := fun _ _ e => kept e
    frzs := fun _ _ _ e => kept e
    tbls := fun b ps e => ⟨#[], by rw [kept e, Array.append_empty]⟩ }
  refine I.un (t' := tk) un fun b z e => ?_
  by_cases hb : b = a
  · subst hb
    rw [upd_same] at e
    cases e
    exact oa
  · rw [upd_ne hb] at e
    by_cases hbd : b = dx
    · subst hbd
      rw [upd_same] at e
      cases e
      exact ou
    · rw [upd_ne hbd] at e
      exact (I.hok b z e).stay (fun c v _ y => k c v y) (fun _ y => kept y) fun _ _ y => kept y
end Mine

set_option Elab.async false
set_option linter.all false
set_option maxRecDepth 100000
set_option maxHeartbeats 4000000
/-! An error class over Exception, called with values and names: the object is made, then its own __init__ runs. -/
namespace Mine
open PySem PySem.Spec L2
section
variable {prog : Program} {w : World} {M : Model} {A : Around} {E : Value → Shared → Prop} {R : Result → Shared → Prop} {h : Heap} {g : Array GenState} {d : Drawn} {t : Nat} {os : OsState}
variable {nm q : Str} {C N : Addr} {bs bm bmB : List Value} {hdct : Bool} {sn : List Str} {sub : List Value} {ab : Bool} {col : Option Bool} {dd : Option Addr} {k0 k1 k2 k3 k5 : Option Value} {B newId initId : String}
/-- the object alone -/
abbrev bareE (C t : Addr) : Obj := HandSPX.excO C t
theorem newOk_kw (F : ExcBaseFacts B newId initId bmB) (hT : ∀ X : String, bm.contains (.type X) = bmB.contains (.type X)) {rest : List Value} {kw : List (Str × Value)} {Q : Unit → Shared → Prop}
    (hC : h.get? C = some (excClassObj nm q C N bs bm hdct sn sub ab col dd k0 k1 k2 k3 k5 newId)) (z : Q () ⟨h, g, d, t, os⟩) : wpAny M A (checkBuiltinCall newId ⟨.ref C :: rest, kw⟩) Q E ⟨h, g, d, t, os⟩ := by
  have has : (Value.ref C :: bm).contains (.type B) = true := by rw [List.contains_cons, hT, F.hasB, Bool.or_true]
  have st := F.noStar
  simp only [checkBuiltinCall, F.newKind, F.newSplit, F.newRow]
  repeat (first | refine wpAny_loadPart_at hC ?_ | (refine wpAny_isSubtype_exc hC ?_; rw [has]) | refine wpAny_staticBase_exc hC ?_ | refine wpAny_madeBy_exc hC ?_ | simp only [bne_self_eq_false, Bool.false_eq_true, if_false] | wp_step)
  exact z
theorem newRun_kw (F : ExcBaseFacts B newId initId bmB) (hT : ∀ X : String, bm.contains (.type X) = bmB.contains (.type X)) {rest : List Value} {kw : List (Str × Value)}
    (hC : h.get? C = some (excClassObj nm q C N bs bm hdct sn sub ab col dd k0 k1 k2 k3 k5 newId)) (fits : rest.length ≤ sizeLine)
    (z : R (.ok (.ret (.ref (h.objs.size + 1)))) ⟨(h.push (W.kdv_tup rest)).push (bareE C h.objs.size), g, d, t, os⟩) :
    codeAny (model prog w) A (.builtin newId ⟨.ref C :: rest, kw⟩) R ⟨h, g, d, t, os⟩ := by
  have en := F.ends
  have hB : (Value.ref C :: bm).contains (.type B) = true := by rw [List.contains_cons, hT, F.hasB, Bool.or_true]
  have hA : (Value.ref C :: bm).contains (.type "AttributeError") = false := by rw [List.contains_cons, hT, F.noAttr]; rfl
  have hN : (Value.ref C :: bm).contains (.type "NameError") = false := by rw [List.contains_cons, hT, F.noName]; rfl
  refine codeAny_builtinAt F.entry ?_
  unfold Builtin.«BaseException.__new__»
  refine wpAt_bind ?_
  show wpAt _ _ _ (stack >>= _) _ _ _
  refine wpAt_bind (wpAt_stack fun p below => wpAt_of_wpAny ?_)
  wp_walk
  refine wpAt_of_wpAny ?_
  rw [F.owner]
  repeat (first | with_reducible refine wpAny_madeHere_exc F.canon hC ?_ | with_reducible refine wpAny_loadPart_at hC ?_ | (with_reducible refine wpAny_isSubtype_exc hC ?_; first | rw [hB] | rw [hA] | rw [hN]) | wp_step)
  show R _ _
  rw [Heap.size_push]
  exact z
theorem typeCall_kw (F : ExcBaseFacts B newId initId bmB) (hT : ∀ X : String, bm.contains (.type X) = bmB.contains (.type X)) {rest : List Value} {kw : List (Str × Value)} {fI : Addr} {Q : Fin → Shared → Prop}
    (hC : h.get? C = some (excClassObj nm q C N bs bm hdct sn sub ab col dd k0 k1 k2 k3 k5 newId)) (fits : rest.length ≤ sizeLine)
    (hi : W.Looks (model prog w) h (typeLookup (.ref C) "__init__") (some (.ref fI))) (hb : ∀ self, W.Looks (model prog w) h (bindSpecial (.ref fI) self) (.ref fI, [self]))
    (z : codeAny (model prog w) A (.call (.ref fI) ⟨.ref (h.objs.size + 1) :: rest, kw⟩)
      (fun r s' => match r with | .ok (.ret v) => v = .none ∧ Q (.done (.ret (.ref (h.objs.size + 1)))) s' | .ok _ => False | .error e => E e s') ⟨(h.push (W.kdv_tup rest)).push (bareE C h.objs.size), g, d, t, os⟩) :
    wpAny (model prog w) A (Builtin.«type.__call__» ⟨.ref C :: rest, kw⟩) Q E ⟨h, g, d, t, os⟩ := by
  repeat (first | with_reducible refine wpAny_loadPart_at hC ?_ | with_reducible refine wpAny_madeBy_exc hC ?_ | wp_step)
  refine codeAny_call_builtin_code (Code.quiet_builtin _ F.quiet) (newOk_kw F hT hC ?_)
  refine newRun_kw F hT hC fits ?_
  show wpAny _ _ _ _ _ _
  have k : ∀ b o, h.get? b = some o → ((h.push (W.kdv_tup rest)).push (bareE C h.objs.size)).get? b = some o := fun b o e => Heap.get?_push_of_some _ (Heap.get?_push_of_some _ e)
  have hC1 := k _ _ hC
  have he : ((h.push (W.kdv_tup rest)).push (bareE C h.objs.size)).get? (h.objs.size + 1) = some (bareE C h.objs.size) := by heap_get
  have own : (Value.ref C :: bm).contains (.ref C) = true := by simp
  have i1 := hi.keeps k
  have b1 := (hb (.ref (h.objs.size + 1))).keeps k
  unfold isInstance
  repeat (first | with_reducible refine wpAny_loadPart_at he ?_ | (with_reducible refine wpAny_isSubtype_exc hC1 ?_; rw [own]) | wp_step)
  show wpAny _ _ (typeLookup (.ref C) _) _ _ _
  refine i1.at ?_
  refine wpAny_holding (wpAny_bind (b1.at ?_))
  refine wpAny_bind (wpAny_call (codeAny_mono z fun r s' y => ?_))
  rcases r with e | (v | _ | _ | _) <;> first | exact y | exact y.elim | skip
  obtain ⟨rfl, y⟩ := y
  first
    | exact wpAny_pure (wpAny_pure y)
    | (wp_walk; exact y)
theorem call_kw (F : ExcBaseFacts B newId initId bmB) (hT : ∀ X : String, bm.contains (.type X) = bmB.contains (.type X)) {rest : List Value} {kw : List (Str × Value)} {fI : Addr}
    (hC : h.get? C = some (excClassObj nm q C N bs bm hdct sn sub ab col dd k0 k1 k2 k3 k5 newId)) (fits : rest.length ≤ sizeLine)
    (hi : W.Looks (model prog w) h (typeLookup (.ref C) "__init__") (some (.ref fI))) (hb : ∀ self, W.Looks (model prog w) h (bindSpecial (.ref fI) self) (.ref fI, [self]))
    (z : codeAny (model prog w) (A.under (.builtin "type.__call__" ⟨.ref C :: rest, kw⟩)) (.call (.ref fI) ⟨.ref (h.objs.size + 1) :: rest, kw⟩) (W.InitBack (h.objs.size + 1) R) ⟨(h.push (W.kdv_tup rest)).push (bareE C h.objs.size), g, d, t, os⟩) :
    codeAny (model prog w) A (.call (.ref C) ⟨rest, kw⟩) R ⟨h, g, d, t, os⟩ := by
  have f1 := tc_lookup
  have f2 := tc_bind (.ref C)
  have hTy : (⟨h, g, d, t, os⟩ : Shared).TypeIs (.ref C) "type" := ⟨_, hC, rfl⟩
  refine codeAny_of_tree ?_
  show wpAny _ _ (callAny (.ref C) _) _ _ _
  repeat (any_goals (first | assumption | with_reducible refine wpAny_loadPart_at hC ?_ | wp_step))
  refine ⟨rfl, ?_⟩
  refine codeAny_call_builtin_at (Code.quiet_builtin _ (by decide +kernel)) entry_typeCall (wpAny_check_type_call_sub hC (typeCall_kw F hT hC fits hi hb ?_))
  refine codeAny_mono z fun r s' y => ?_
  rcases r with e | (v | _ | _ | _) <;> exact y
end
end Mine

set_option Elab.async false
set_option linter.all false
set_option maxRecDepth 100000
set_option maxHeartbeats 4000000
/-! A def __init__(self, f) that stores f, run on a bare error; errors made by value and by name, and raised. -/
namespace Mine
open PySem PySem.Spec L2
/-- the text of such a def -/
structure Ini (q : Str) (st : Stmt) (f : Str) : Prop where
  body : ∃ q1 q2 q3 q4, defBody st = [.Assign [.Attribute (.Name "self" q1) f q2] (.Name f q3) q4]
  names : (defScope st).names = [(PySem.Str.ofString "self", .local), (f, .local)]
  kind : (defScope st).kind = .function
  co : (defScope st).isCoroutine = false
  gen : (defScope st).isGenerator = false
  b1 : ∀ (kV doc pm : Value) (an : Option Addr) (cdv ct x v : Value), bindArgs (PySem.W.fnOf "__init__" q (defArgs st) (defBody st) (defScope st) .none kV doc pm an cdv ct) ⟨[x, v], []⟩ = pure [(PySem.Str.ofString "self", x), (f, v)]
  b2 : ∀ (kV doc pm : Value) (an : Option Addr) (cdv ct x v : Value), bindArgs (PySem.W.fnOf "__init__" q (defArgs st) (defBody st) (defScope st) .none kV doc pm an cdv ct) ⟨[x], [(f, v)]⟩ = pure [(PySem.Str.ofString "self", x), (f, v)]
  ne : (f == (PySem.Str.ofString "self")) = false
  db : (f == (PySem.Str.ofString "__debug__")) = false
/-- an error class with such an __init__, its field f -/
structure ErrF (K : PySem.W.Frag) (mg : Str → Option Value) (x f : Str) (C fI : Addr) : Prop extends ErrA K C where
  g : mg x = some (.ref C)
  new : PySem.W.excInitIn K C chain "Exception.__new__" = true
  over : PySem.W.excOver K C chain = true
  sa : PySem.W.findIn K (.ref C) "__setattr__" = some (some (.builtin "object.__setattr__"))
  tk : PySem.W.takerIn K C f = some none
  no : PySem.W.findIn K (.ref C) f = some none
  ini : PySem.W.findIn K (.ref C) "__init__" = some (some (.ref fI))
  tI : PySem.W.typeIn K (.ref fI) = some (.type "function")
  txt : ∃ (q : Str) (st : Stmt) (fd : FuncData), Fun K "__init__" q st fI fd ∧ Ini q st f
/-- an error class without -/
structure ErrN (K : PySem.W.Frag) (mg : Str → Option Value) (x : Str) (C : Addr) : Prop extends ErrA K C where
  g : mg x = some (.ref C)
  new : PySem.W.excIn K C chain "Exception.__new__" = true

section
variable {prog : Program} {w : World} {A : Around} {E : Value → Shared → Prop} {R : Result → Shared → Prop} {K : PySem.W.Frag} {mg : Str → Option Value} {x f : Str} {C fI : Addr}
/-- an error object, dict and all -/
abbrev fullE (C t dx : Addr) : Obj := { cls := .ref C, dict := some dx, data := .fields #[.ref t, .none, .none, .none, .bool false, .none] }
/-- what the call of __init__ leaves -/
structure Stored (h h' : Heap) (e C t dx : Addr) (f : Str) (v : Value) : Prop where
  keep : ∀ b o, b ≠ e → h.get? b = some o → h'.get? b = some o
  obj : h'.get? e = some (fullE C t dx)
  big : h.objs.size ≤ dx
  ne : dx ≠ e
  ns : h'.Ns1 dx (fun y => if y = f then some v else none)
theorem store_bare (T : ErrF K mg x f C fI) {e t : Addr} {v : Value} {tk : Tok} {s : Shared} (X : K.In s.heap) (he : s.heap.get? e = some (bareE C t))
    (z : ∀ h' tk' dx, Stored s.heap h' e C t dx f v → R (.ok (.ret .none)) { s with heap := h', toks := tk' }) :
    codeAny (model prog w) A (.call (.builtin "object.__setattr__") ⟨[.ref e, .str f tk, v], []⟩) R s := by
  obtain ⟨hp, g, d, tt, os⟩ := s
  have he' : hp.get? e = some (bareE C t) := he
  have X' : K.In hp := X
  have J : PySem.W.InstAt hp e (bareE C t) C none := ⟨he', rfl, rfl, trivial⟩
  have ne : e ≠ hp.objs.size := Nat.ne_of_lt (Heap.lt_size he')
  obtain ⟨cd, hc, hm⟩ := PySem.W.any_some T.hd
  have hcls : PySem.W.Looks (model prog w) hp (classData C) cd := PySem.W.looks_clsIn X' hc
  refine PySem.W.osa_openX (s := ⟨hp, g, d, tt, os⟩) (od := none) PySem.F.store_Exception X J T.over T.tk fun b => ?_
  show wpAny _ _ (Builtin.ObjectAttr.storeInOwnDict (.ref e) (.ref C) (.str f tk) f v b) _ _ _
  obtain ⟨nm, bs, mro, ns, qn, hdd, sn, sb, ab, col, del⟩ := cd
  dsimp only at hm
  subst hm
  have first : hp.get? e = some (bareE C t) → ((hp.push { cls := .type "dict", data := .dict #[] }).update e fun o => { o with dict := some hp.objs.size }).Ns hp.objs.size fun _ => none := fun _ =>
    ⟨_, #[], _, (Heap.get?_update_ne _ _ _ _ ne.symm).trans (Heap.get?_push_at rfl rfl), rfl, fun y hy => absurd hy (by simp), fun _ => rfl⟩
  have last : ∀ (h' : Heap) (tk' : Nat), h'.Ns1 hp.objs.size (fun y => if y = f then some v else none) → Heap.SameBut hp.objs.size ((hp.push { cls := .type "dict", data := .dict #[] }).update e fun o => { o with dict := some hp.objs.size }) h' →
      R (.ok (.ret .none)) ⟨h', g, d, tk', os⟩ := fun h' tk' hn hs => by
    have e1 : (hp.push { cls := .type "dict", data := .dict #[] }).get? e = some (bareE C t) := Heap.get?_push_of_some _ he'
    refine z h' tk' hp.objs.size ⟨fun b o hb ho => ?_, ?_, Nat.le_refl _, ne.symm, hn⟩
    · exact (hs.2 b (Nat.ne_of_lt (Heap.lt_size ho))).trans ((Heap.get?_update_ne _ _ _ _ hb).trans (Heap.get?_push_of_some _ ho))
    · exact (hs.2 e ne).trans (Heap.get?_update_self _ e1 rfl)
  unfold Builtin.ObjectAttr.storeInOwnDict Builtin.ObjectAttr.ownDictForStores
  cases b
  all_goals
    repeat (first | with_reducible refine HandSPX.store_in_new ?_ ?_ | with_reducible refine wpAny_loadPart_at he' ?_ | with_reducible refine hcls.at ?_ | wp_step)
  all_goals first | exact first he' | exact last
theorem find_loc {P : Shared → Prop} {s : Shared} {nm q : Str} {sc : Scope} {L a : Addr} {cd : Value} {m : Str → Option Value} {y : Str} {pos : Pos} {v : Value} {Q : Value → Shared → Prop} (hn : s.heap.Ns L m) (hv : m y = some v) (z : Q v s)
    (hk : sc.kind = .function) (hl : sc.names.lookup y = some .local) (hd : (y == (PySem.Str.ofString "__debug__")) = false) :
    wpAny (model prog w) A (eval (.Name y pos) (PyProof.Rows.envOfC q sc L a cd)) Q E s := wpAny_Name (wpAny_loadName_local hk hl hn hv z) hd
/-- the call of __init__ on a bare error -/
theorem init_run (T : ErrF K mg x f C fI) {e t : Addr} {v : Value} {args : Args} {s : Shared} (X : K.In s.heap) (lim : s.heap.NoLimit) (he : s.heap.get? e = some (bareE C t)) (room : A.depth < recursionLimit)
    (hargs : args = ⟨[.ref e, v], []⟩ ∨ args = ⟨[.ref e], [(f, v)]⟩)
    (z : ∀ h' tk' dx, Stored s.heap h' e C t dx f v → R (.ok (.ret .none)) { s with heap := h', toks := tk' }) :
    codeAny (model prog w) A (.call (.ref fI) args) R s := by
  obtain ⟨q, st, fd, F, T1⟩ := T.txt
  obtain ⟨oc, od, kV, doc, pm, an, cdv, ct, osl, rfl, lk, hcd⟩ := F.ex
  obtain ⟨q1, q2, q3, q4, hb⟩ := T1.body
  have lS : (defScope st).names.lookup (PySem.Str.ofString "self") = some .local := by rw [T1.names]; rfl
  have lF : (defScope st).names.lookup f = some .local := by
    rw [T1.names]
    simp only [List.lookup, T1.ne]
    simp
  have bind : BindsTo s (PySem.W.fnOf "__init__" q (defArgs st) (defBody st) (defScope st) .none kV doc pm an cdv ct) args [(PySem.Str.ofString "self", .ref e), (f, v)] := by
    rcases hargs with rfl | rfl
    · exact BindsTo.of_eq (T1.b1 ..)
    · exact BindsTo.of_eq (T1.b2 ..)
  refine Att.call_fn X lim lk hcd room bind ?_ (fun s1 IC => ?_) T1.co T1.gen T1.kind
  · simp only [List.all_cons, List.all_nil, lS, lF]
    rfl
  · obtain ⟨h1, tk1, rfl⟩ := IC.toInCall.same
    have k : ∀ b o, s.heap.get? b = some o → h1.get? b = some o := IC.toInCall.keep
    have hn := IC.toInCall.ns
    have lt := Heap.lt_size he
    have mS : bindL (PyProof.Rows.envOfC q (defScope st) s.heap.objs.size fI cdv).kindOf (([PySem.Str.ofString "self", f] : List Str).zip [Value.ref e, v]) (fun _ => none) (PySem.Str.ofString "self") = some (.ref e) := by
      refine bindL_get (P := [PySem.Str.ofString "self", f]) (vs := [.ref e, v]) (i := 0) ?_ rfl rfl lS
      exact List.nodup_cons.mpr ⟨fun q => by
        have e2 : PySem.Str.ofString "self" = f := by simpa using q
        have := T1.ne
        rw [← e2] at this
        simp at this, List.nodup_cons.mpr ⟨by simp, List.nodup_nil⟩⟩
    have mF : bindL (PyProof.Rows.envOfC q (defScope st) s.heap.objs.size fI cdv).kindOf (([PySem.Str.ofString "self", f] : List Str).zip [Value.ref e, v]) (fun _ => none) f = some v := by
      refine bindL_get (P := [PySem.Str.ofString "self", f]) (vs := [.ref e, v]) (i := 1) ?_ rfl rfl lF
      exact List.nodup_cons.mpr ⟨fun q => by
        have e2 : PySem.Str.ofString "self" = f := by simpa using q
        have := T1.ne
        rw [← e2] at this
        simp at this, List.nodup_cons.mpr ⟨by simp, List.nodup_nil⟩⟩
    rw [hb]
    show wpAny _ _ (execs _ _) _ _ _
    refine wpAny_execs_cons (plainObj_wpAny_Assign_Attribute ?_)
    refine find_loc (P := fun _ => True) (nm := "__init__") hn mF (find_loc (P := fun _ => True) (nm := "__init__") hn mS ?_ T1.kind lS (by decide)) T1.kind lF T1.db
    refine PySem.W.set_plain (X.keeps k) (ox := bareE C t) (od := none) ⟨k _ _ he, rfl, rfl, trivial⟩ T.sa ?_
    refine store_bare T (s := { s with heap := h1, toks := tk1 + 1 }) (X.keeps k) (k _ _ he) fun h3 tk3 dx S => ?_
    show wpAny _ _ (execs _ _) _ _ _
    have z1 : s.heap.objs.size < h1.objs.size := hn.lt
    exact wpAny_execs_nil (z h3 tk3 dx ⟨fun b o hb2 e2 => S.keep b o hb2 (k b o e2), S.obj, Nat.le_of_lt (Nat.lt_of_lt_of_le z1 S.big), S.ne, S.ns⟩)
end
end Mine

set_option Elab.async false
set_option linter.all false
set_option maxRecDepth 100000
set_option maxHeartbeats 4000000
/-! Errors made as values (by position, by name, without anything), and raised. -/
namespace Mine
open PySem PySem.Spec L2
/-- a new error e with its dict dx: all that stood stands -/
structure MadeE (h h' : Heap) (e C t dx : Addr) (f : Str) (v : Value) : Prop where
  keep : ∀ b o, h.get? b = some o → h'.get? b = some o
  new : h.objs.size ≤ e
  obj : h'.get? e = some (fullE C t dx)
  big : h.objs.size ≤ dx
  ne : dx ≠ e
  ns : h'.Ns1 dx (fun y => if y = f then some v else none)
section
variable {prog : Program} {w : World} {A : Around} {E : Value → Shared → Prop} {R : Result → Shared → Prop} {K : PySem.W.Frag} {mg : Str → Option Value} {x f : Str} {C fI : Addr}
theorem call_err (T : ErrF K mg x f C fI) {v : Value} {us : List Value} {kw : List (Str × Value)} {s : Shared} (X : K.In s.heap) (lim : s.heap.NoLimit) (room : A.depth + 1 < recursionLimit) (ha : (us = [v] ∧ kw = []) ∨ (us = [] ∧ kw = [(f, v)]))
    (z : ∀ h' tk e t dx, MadeE s.heap h' e C t dx f v → R (.ok (.ret (.ref e))) { s with heap := h', toks := tk }) :
    codeAny (model prog w) A (.call (.ref C) ⟨us, kw⟩) R s := by
  obtain ⟨nm, N, qn, bs, bm, hdct, sn, sub, ab, col, dd, k0, k1, k2, k3, k5, hC, hT⟩ := PySem.W.excInit_of X T.new
  obtain ⟨hp, g, d, tk, os⟩ := s
  have hs : us.length ≤ sizeLine := by
    rw [sizeLine_eq]
    rcases ha with ⟨rfl, _⟩ | ⟨rfl, _⟩ <;> simp
  have k : ∀ b o, hp.get? b = some o → ((hp.push (PySem.W.kdv_tup us)).push (bareE C hp.objs.size)).get? b = some o := fun b o e => Heap.get?_push_of_some _ (Heap.get?_push_of_some _ e)
  have he : ((hp.push (PySem.W.kdv_tup us)).push (bareE C hp.objs.size)).get? (hp.objs.size + 1) = some (bareE C hp.objs.size) := by heap_get
  have Xh : K.In hp := X
  refine call_kw PySem.F.excBase_Exception hT hC hs (PySem.W.looks_findIn Xh T.ini) (fun self => PySem.W.bind_fn Xh self T.tI) ?_
  refine init_run T (v := v) (s := ⟨_, g, d, tk, os⟩) (Xh.keeps k) (PySem.Heap.NoLimit.keeps lim k) he ?_ ?_ fun h' tk' dx S => ?_
  · show A.depth + 1 < recursionLimit
    exact room
  · rcases ha with ⟨rfl, rfl⟩ | ⟨rfl, rfl⟩
    · exact .inl rfl
    · exact .inr rfl
  · have big : hp.objs.size + 1 + 1 ≤ dx := by
      have q := S.big
      simp only [Heap.size_push] at q
      exact q
    exact ⟨rfl, z h' tk' (hp.objs.size + 1) hp.objs.size dx ⟨fun b o e => S.keep b o (Nat.ne_of_lt (Nat.lt_succ_of_lt (Heap.lt_size e))) (k b o e), Nat.le_succ _, S.obj, Nat.le_trans (Nat.le_trans (Nat.le_succ _) (Nat.le_succ _)) big, S.ne, S.ns⟩⟩
end
section
variable {X : Cx} {x f : Str} {C fI : Addr} {e : Expr} {te : TE} {p pos kpos : Pos}
/-- the heap with the new error -/
def eUp (H : Hp) (a dx C : Addr) (f : Str) (v : V) : Hp := upd (upd H dx (exd dx [(f, v)])) a (exo a C (some dx))
theorem eUp_at {H : Hp} {a dx C : Addr} {f : Str} {v : V} (ne : dx ≠ a) : EAt (eUp H a dx C f v) a C (some (dx, [(f, v)])) := ⟨upd_same, by unfold eUp; rw [upd_ne ne, upd_same]⟩
theorem eUp_ne {H : Hp} {a dx C b : Addr} {f : Str} {v : V} (h1 : b ≠ a) (h2 : b ≠ dx) : eUp H a dx C f v b = H b := by unfold eUp; rw [upd_ne h1, upd_ne h2]
def tErr (C : Addr) (f : Str) (ta : TA) : TE := fun σ H Q => ta σ H fun vs H1 => ∃ v, vs = [v] ∧ ∀ a dx, H1 a = none → H1 dx = none → dx ≠ a → Q (.ref a) (eUp H1 a dx C f v)
theorem err_back {pins : List (Addr × Obj)} {σ : L2.St} {H1 : Hp} {s1 : Shared} {v : V} {u : Value} {Q : VK} (T : ErrF X.K X.mg x f C fI) (I1 : L2.Inv X pins σ H1 s1) (rv : L2.RelV v u) (q : ∀ a dx, H1 a = none → H1 dx = none → dx ≠ a → Q (.ref a) (eUp H1 a dx C f v))
    (room : X.A.depth + 1 < recursionLimit) {us : List Value} {kw : List (Str × Value)} (ha : (us = [u] ∧ kw = []) ∨ (us = [] ∧ kw = [(f, u)])) : wpAny (model X.prog X.w) X.A (call (.ref C) us kw) (L2.EP X pins σ Q) X.xe s1 := by
  refine wpAny_call (call_err T I1.kIn I1.nolimit room ha fun h' tk a t dx M => ?_)
  refine ⟨.ref a, eUp H1 a dx C f v, inv_two (o := exo a C (some dx)) (u := exd dx [(f, v)]) I1 M.keep M.new M.big M.ne (exo_ok M.obj) (exd_ok M.ns ?_), rfl, q a dx (I1.hok.fresh M.new) (I1.hok.fresh M.big) M.ne⟩
  exact relO_put (fs := []) rv fun g => True.intro
theorem pe_err {ta : TA} (T : ErrF X.K X.mg x f C fI) (room : X.A.depth + 1 < recursionLimit) (ha : PA X [e] ta) (hg : Gl X x) (hdb : (x == (PySem.Str.ofString "__debug__")) = false := by decide)
    (hs : starEach [e] X.env = (false, eval e X.env) :: starEach [] X.env := by rfl) (hpl : (backTo pos (starEach [] X.env)).any (·.1) = false := by rfl) : PE X (.Call (.Name x p) [e] [] pos) (tErr C f ta) := by
  refine ⟨fun pins s σ H Q I h => ?_⟩
  refine wpAny_Call_Name_kw (ld_glob I hg T.g ?_ hdb)
  refine PySem.W.callWith_K (h₀ := X.base) I.ok.mod.kin T.kp (thn (ha.run pos pins s σ H _ I h) fun us s1 hh => ?_) hs hpl
  obtain ⟨vs, H1, I1, r1, v, ev, q⟩ := hh
  subst ev
  refine ⟨I1.kIn, ?_⟩
  cases r1 with
  | cons rv rn =>
    cases rn
    exact err_back T I1 rv q room (.inl ⟨rfl, rfl⟩)
theorem pe_errK {ta : TA} (T : ErrF X.K X.mg x f C fI) (room : X.A.depth + 1 < recursionLimit) (ha : PK X [⟨some f, e, kpos⟩] ta) (hg : Gl X x) (hdb : (x == (PySem.Str.ofString "__debug__")) = false := by decide)
    (hall : (backToKw pos (keywordEach [⟨some f, e, kpos⟩] X.env)).all (·.1.isSome) = true := by rfl) (hks : (backToKw pos (keywordEach [⟨some f, e, kpos⟩] X.env)).filterMap (·.1) = [f] := by rfl)
    (hpl : ((backTo pos (starEach [] X.env)).any (·.1) || (backToKw pos (keywordEach [⟨some f, e, kpos⟩] X.env)).any (·.1.isNone)) = false := by rfl) : PE X (.Call (.Name x p) [] [⟨some f, e, kpos⟩] pos) (tErr C f ta) := by
  refine ⟨fun pins s σ H Q I h => ?_⟩
  refine wpAny_Call_Name_kw (ld_glob I hg T.g ?_ hdb)
  refine PySem.W.callWith_KW0 (h₀ := X.base) I.ok.mod.kin T.kp hall (thn (ha.run pos pins s σ H _ I h) fun us s1 hh => ?_) hpl
  obtain ⟨vs, H1, I1, r1, v, ev, q⟩ := hh
  subst ev
  refine ⟨I1.kIn, ?_⟩
  cases r1 with
  | cons rv rn =>
    cases rn
    rw [hks]
    exact err_back T I1 rv q room (.inr ⟨rfl, rfl⟩)
/-- C(), a class without an __init__ of its own -/
def tErr0 (C : Addr) : TE := fun σ H Q => ∀ a, H a = none → Q (.ref a) (upd H a (exo a C none))
theorem pe_err0 (T : ErrN X.K X.mg x C) (hg : Gl X x) (hdb : (x == (PySem.Str.ofString "__debug__")) = false := by decide) : PE X (.Call (.Name x p) [] [] pos) (tErr0 C) := by
  refine ⟨fun pins s σ H Q I h => ?_⟩
  refine wpAny_Call_Name_kw (ld_glob I hg T.g ?_ hdb)
  refine PySem.W.callWith_K0 I.kIn T.kp ?_
  show wpAny _ _ (call (.ref C) []) _ _ _
  obtain ⟨bm, N, nm, qn, bs, hdct, sn, sub, ab, col, dd, k0, k1, k2, k3, k5, mN, hC, hN, hni, O⟩ := exc_obj I.kIn T.new
  refine wpAny_call_exc_subT PySem.F.excBase_Exception O hC hN hni (fun h' a M => ?_) (by show 0 ≤ sizeLine; exact Nat.zero_le _)
  have hn : H a = none := I.hok.gone M.new
  obtain ⟨t, ht, _, _⟩ := M.there
  exact ⟨.ref a, upd H a (exo a C none), I.laidN M.keeps M.new hn (exo_ok ht), rfl, h a hn⟩
/-! raised: nothing of the error is told but its class -/
def tRais (C : Addr) (ta : TA) : L2.St → Hp → L2.XK → Prop := fun σ H Q => ta σ H fun vs H1 => ∃ v, vs = [v] ∧ ∀ d, Q (.ref C) (some d) H1
theorem pm_err {ta : TA} (T : ErrF X.K X.mg x f C fI) (room : X.A.depth + 1 < recursionLimit) (ha : PA X [e] ta) (hg : Gl X x) (hdb : (x == (PySem.Str.ofString "__debug__")) = false := by decide)
    (hs : starEach [e] X.env = (false, eval e X.env) :: starEach [] X.env := by rfl) (hpl : (backTo pos (starEach [] X.env)).any (·.1) = false := by rfl) : L2.PMk X (.Call (.Name x p) [e] [] pos) (tRais C ta) := by
  intro pins s σ H Q I h
  refine wpAny_Call_Name_kw (ld_glob I hg T.g ?_ hdb)
  refine PySem.W.callWith_K (h₀ := X.base) I.ok.mod.kin T.kp (thn (ha.run pos pins s σ H _ I h) fun us s1 hh => ?_) hs hpl
  obtain ⟨vs, H1, I1, r1, v, ev, q⟩ := hh
  subst ev
  refine ⟨I1.kIn, ?_⟩
  cases r1 with
  | cons rv rn =>
    cases rn
    refine wpAny_call (call_err T I1.kIn I1.nolimit room (.inl ⟨rfl, rfl⟩) fun h' tk a t dx M => ?_)
    have na : s1.heap.get? a = none := by
      cases z : s1.heap.get? a with
      | none => rfl
      | some o => exact absurd (Nat.lt_of_lt_of_le (Heap.lt_size z) M.new) (Nat.lt_irrefl _)
    exact ⟨a, _, _, s1, H1, .ref C, some dx, rfl, I1, M.keep, na, M.obj, ⟨rfl, rfl⟩, rfl, rfl, I1.hok.fresh M.new, rfl, I1.bare, L2.raises_own T.su T.ty, q dx⟩
theorem pm_err0 (T : ErrN X.K X.mg x C) (hg : Gl X x) (hdb : (x == (PySem.Str.ofString "__debug__")) = false := by decide) : L2.PMk X (.Call (.Name x p) [] [] pos) (fun _ H Q => Q (.ref C) none H) := by
  intro pins s σ H Q I h
  refine wpAny_Call_Name_kw (ld_glob I hg T.g ?_ hdb)
  refine PySem.W.callWith_K0 I.kIn T.kp ?_
  show wpAny _ _ (call (.ref C) []) _ _ _
  obtain ⟨bm, N, nm, qn, bs, hdct, sn, sub, ab, col, dd, k0, k1, k2, k3, k5, mN, hC, hN, hni, O⟩ := exc_obj I.kIn T.new
  refine wpAny_call_exc_subT PySem.F.excBase_Exception O hC hN hni (fun h' a M => ?_) (by show 0 ≤ sizeLine; exact Nat.zero_le _)
  exact L2.mk_of I M (L2.raises_own T.su T.ty) h (I.hok.gone M.new)
end
end Mine

set_option Elab.async false
set_option linter.all false
set_option maxRecDepth 100000
set_option maxHeartbeats 4000000
/-! Data of lists, tuples and small dicts as the abstract heap holds it, and its text. -/
namespace Mine
open PySem PySem.Spec L2
mutual
inductive DK (H : Hp) : V → PyData → Prop
  | non : DK H .non .none
  | bl (b : Bool) : DK H (.bl b) (.bool b)
  | int (i : Int) : DK H (.int i) (.int i)
  | str (x : Str) : DK H (.str x) (.str x)
  | lst {a : Addr} {xs : List V} {ds : List PyData} : H a = some (.lst xs) → DKs H xs ds → DK H (.ref a) (.list ds)
  | tup {a : Addr} {xs : List V} {ds : List PyData} : H a = some (.tup xs) → DKs H xs ds → DK H (.ref a) (.tuple ds)
  | dct0 {a : Addr} : H a = some (.dK []) → DK H (.ref a) (.dict [])
  | dct1 {a : Addr} {k : Str} {v : V} {d : PyData} : H a = some (.dK [(Sum.inr k, v)]) → DK H v d → DK H (.ref a) (.dict [(.str k, d)])
inductive DKs (H : Hp) : List V → List PyData → Prop
  | nil : DKs H [] []
  | cons {v : V} {vs : List V} {d : PyData} {ds : List PyData} : DK H v d → DKs H vs ds → DKs H (v :: vs) (d :: ds)
end
mutual
theorem DK.keeps {H H' : Hp} (k : ∀ b o, H b = some o → H' b = some o) : ∀ (d : PyData) (v : V), DK H v d → DK H' v d
  | .none, _, h => by cases h; exact .non
  | .bool b, _, h => by cases h; exact .bl b
  | .int i, _, h => by cases h; exact .int i
  | .str x, _, h => by cases h; exact .str x
  | .list ds, _, h => by
    cases h with
    | lst e r => exact .lst (k _ _ e) (DKs.keeps k ds _ r)
  | .tuple ds, _, h => by
    cases h with
    | tup e r => exact .tup (k _ _ e) (DKs.keeps k ds _ r)
  | .dict [], _, h => by
    cases h with
    | dct0 e => exact .dct0 (k _ _ e)
  | .dict [(kk, d)], _, h => by
    cases h with
    | dct1 e r => exact .dct1 (k _ _ e) (DK.keeps k d _ r)
  | .dict (_ :: _ :: _), _, h => by cases h
theorem DKs.keeps {H H' : Hp} (k : ∀ b o, H b = some o → H' b = some o) : ∀ (ds : List PyData) (vs : List V), DKs H vs ds → DKs H' vs ds
  | [], _, h => by cases h; exact .nil
  | d :: ds, _, h => by
    cases h with
    | cons h1 h2 => exact .cons (DK.keeps k d _ h1) (DKs.keeps k ds _ h2)
end
theorem DKs.len {H : Hp} : ∀ {vs : List V} {ds : List PyData}, DKs H vs ds → vs.length = ds.length
  | _, _, .nil => rfl
  | _, _, .cons _ r => by rw [List.length_cons, List.length_cons, r.len]
theorem DKs.snoc {H : Hp} {v : V} {d : PyData} (h : DK H v d) : ∀ {vs : List V} {ds : List PyData}, DKs H vs ds → DKs H (vs ++ [v]) (ds ++ [d])
  | _, _, .nil => .cons h .nil
  | _, _, .cons a r => .cons a (r.snoc h)

/-- what is asked of data that is shown: numbers of moderate size, a text of at most n signs, at most l deep -/
structure Shows (n l : Nat) (d : PyData) : Prop where
  ok : d.showable = true
  len : d.shown.length ≤ n
  dep : d.depth ≤ l

section
variable {prog : Program} {w : World} {X : Cx} {pins : List (Addr × Obj)} {σ : L2.St} {H : Hp} {s : Shared}
/-- reading, and the text under way -/
def Rk (prog : Program) (w : World) (h : Heap) (u : Value) (d : PyData) : Prop := (∃ as, Reads h u d as) ∧ ∃ bs, ReadAtMost h d.depth bs ∧ ReprK prog w bs h d.depth u d.shown
def Rks (prog : Program) (w : World) (h : Heap) (us : List Value) (ds : List PyData) : Prop := (∃ as, ReadsAll h us ds as) ∧ ∃ bs, ReadAtMost h (PyData.depthAll ds) bs ∧ ReprAllK prog w bs h (PyData.depthAll ds) us (PyData.shownAll ds)
theorem Rk.leaf {h : Heap} {u : Value} {d : PyData} {as : List Addr} (r : Reads h u d as) (i : ReprIs prog w u d.shown) : Rk prog w h u d := ⟨⟨_, r⟩, [], (fun _ z => nomatch z), .of_is i _ _ _⟩
theorem Rks.cons {h : Heap} {u : Value} {us : List Value} {d : PyData} {ds : List PyData} (a : Rk prog w h u d) (b : Rks prog w h us ds) : Rks prog w h (u :: us) (d :: ds) := by
  obtain ⟨⟨as, r1⟩, b1, m1, k1⟩ := a
  obtain ⟨⟨cs, r2⟩, b2, m2, k2⟩ := b
  refine ⟨⟨_, .cons r1 r2⟩, b1 ++ b2, ?_, ?_⟩
  · simp only [PyData.depthAll]
    exact (m1.mono (Nat.le_max_left _ _)).append (m2.mono (Nat.le_max_right _ _))
  · simp only [PyData.depthAll, PyData.shownAll]
    exact .cons ((k1.more fun _ z => List.mem_append_left _ z).level_le (Nat.le_max_left _ _)) (k2.more_le (fun _ z => List.mem_append_right _ z) (Nat.le_max_right _ _))
theorem Rk.list {h : Heap} {a : Addr} {o : Obj} {us : List Value} {n : Nat} {ds : List PyData} (h1 : h.get? a = some o) (h2 : o.cls = .type "list") (h3 : o.data = .seq us.toArray n) (r : Rks prog w h us ds) : Rk prog w h (.ref a) (.list ds) := by
  obtain ⟨⟨as, r⟩, bs, m, k⟩ := r
  have rd : Reads h (.ref a) (.list ds) (a :: as) := .list h1 h2 h3 r
  have out : a ∉ bs := not_mem_of_deeper rd (by simp only [PyData.depth]; omega) m
  refine ⟨⟨_, rd⟩, a :: bs, ReadAtMost.cons rd (by simp only [PyData.depth]; omega) m, ?_⟩
  simp only [PyData.depth, PyData.shown]
  cases us with
  | nil =>
    cases r
    simp only [PyData.shownAll, listText_nil]
    exact ReprK.listEmpty h1 h2 h3
  | cons x l => exact ReprK.list h1 h2 h3 out (by simpa using k.length_eq) fun i y e => k.item i y (by simpa using e)
theorem Rk.tuple {h : Heap} {a : Addr} {o : Obj} {us : List Value} {n : Nat} {ds : List PyData} (h1 : h.get? a = some o) (h2 : o.cls = .type "tuple") (h3 : o.data = .seq us.toArray n) (r : Rks prog w h us ds) : Rk prog w h (.ref a) (.tuple ds) := by
  obtain ⟨⟨as, r⟩, bs, m, k⟩ := r
  have rd : Reads h (.ref a) (.tuple ds) as := .tuple h1 h2 h3 r
  have out : a ∉ bs := not_mem_of_deeper rd (by simp only [PyData.depth]; omega) m
  refine ⟨⟨_, rd⟩, a :: bs, ReadAtMost.cons rd (by simp only [PyData.depth]; omega) m, ?_⟩
  simp only [PyData.depth, PyData.shown]
  exact ReprK.tuple h1 h2 h3 out k
theorem Rk.dict {h : Heap} {a : Addr} {o : Obj} {es : Array DictEntry} {n : Nat} {kvs : List (PyData × PyData)} (h1 : h.get? a = some o) (h2 : o.cls = .type "dict") (h3 : o.data = .dict es n) (h4 : (a == sysModules) = false)
    (rk : Rks prog w h (es.toList.map (·.key)) (kvs.map (·.1))) (rv : Rks prog w h (es.toList.map (·.val)) (kvs.map (·.2))) : Rk prog w h (.ref a) (.dict kvs) := by
  obtain ⟨⟨as, r1⟩, b1, m1, k1⟩ := rk
  obtain ⟨⟨cs, r2⟩, b2, m2, k2⟩ := rv
  have rd : Reads h (.ref a) (.dict kvs) _ := .dict h1 h2 h3 r1 r2
  have m : ReadAtMost h (PyData.depthKv kvs) (b1 ++ b2) := (m1.mono (PyData.depthAll_keys_le kvs)).append (m2.mono (PyData.depthAll_vals_le kvs))
  have out : a ∉ b1 ++ b2 := not_mem_of_deeper rd (by simp only [PyData.depth]; omega) m
  refine ⟨⟨_, rd⟩, a :: (b1 ++ b2), ReadAtMost.cons rd (by simp only [PyData.depth]; omega) m, ?_⟩
  simp only [PyData.depth, PyData.shown, PyData.shownKv_eq]
  exact ReprK.dict h1 h2 h3 h4 out (ReprEntriesK.of_two es.toList _ _ (k1.more_le (fun _ z => List.mem_append_left _ z) (PyData.depthAll_keys_le kvs)) (k2.more_le (fun _ z => List.mem_append_right _ z) (PyData.depthAll_vals_le kvs)))
mutual
theorem DK.rk (I : L2.Inv X pins σ H s) : ∀ (d : PyData) (v : V) (u : Value), DK H v d → L2.RelV v u → d.showable = true → d.shown.length ≤ sizeLine → Rk X.prog X.w s.heap u d
  | .none, _, _, h, r, _, _ => by
    cases h; cases r
    exact Rk.leaf .none (by simp only [PyData.shown]; exact ReprIs.none)
  | .bool b, _, _, h, r, _, _ => by
    cases h; cases r
    exact Rk.leaf (.bool b) (by simp only [PyData.shown]; exact ReprIs.bool b)
  | .int i, _, _, h, r, ok, _ => by
    cases h
    obtain ⟨t, rfl⟩ := r
    exact Rk.leaf (.int i t) (by simp only [PyData.shown]; exact ReprIs.int t (by simpa [PyData.showable] using ok))
  | .str x, _, _, h, r, _, hz => by
    cases h
    obtain ⟨t, rfl⟩ := r
    exact Rk.leaf (.str x t) (by simp only [PyData.shown]; exact ReprIs.str x t (by simpa only [PyData.shown] using hz))
  | .list ds, _, _, h, r, ok, hz => by
    cases h with
    | lst e r' =>
      cases r
      obtain ⟨_, its, n, rv, he⟩ := (show ObjOk X.prog X.w H s.heap _ (.lst _) from I.hok _ _ e)
      have hz' : (listText (PyData.shownAll ds)).length ≤ sizeLine := by simpa only [PyData.shown] using hz
      exact Rk.list he rfl rfl (DKs.rks I ds _ its r' rv (by simpa [PyData.showable] using ok) fun t ht => Nat.le_trans (listText_mem_le ht) hz')
  | .tuple ds, _, _, h, r, ok, hz => by
    cases h with
    | tup e r' =>
      cases r
      obtain ⟨_, its, rv, o, he, hc, n, hd⟩ := (show ObjOk X.prog X.w H s.heap _ (.tup _) from I.hok _ _ e)
      have hz' : (tupleText (PyData.shownAll ds)).length ≤ sizeLine := by simpa only [PyData.shown] using hz
      exact Rk.tuple he hc hd (DKs.rks I ds _ its r' rv (by simpa [PyData.showable] using ok) fun t ht => Nat.le_trans (tupleText_mem_le ht) hz')
  | .dict [], _, _, h, r, _, _ => by
    cases h with
    | dct0 e =>
      cases r
      obtain ⟨_, hs, vs, rel, o, es, ep, he, hx, hd, _, hp, _⟩ := (show ObjOk X.prog X.w H s.heap _ (.dK _) from I.hok _ _ e)
      cases rel
      have e0 : es.toList = [] := by
        cases q : es.toList with
        | nil => rfl
        | cons a b => rw [q] at hp; cases hp
      refine Rk.dict he hx.1 hd hs ?_ ?_
      all_goals
        rw [e0]
        exact ⟨⟨_, .nil⟩, [], (fun _ z => nomatch z), .nil⟩
  | .dict [(kk, d)], _, _, h, r, ok, hz => by
    cases h with
    | @dct1 a k v d e r' =>
      cases r
      obtain ⟨_, hs, vs, rel, o, es, ep, he, hx, hd, _, hp, _⟩ := (show ObjOk X.prog X.w H s.heap _ (.dK _) from I.hok _ _ e)
      have hz' : (dictText (PyData.shownKv [(.str k, d)])).length ≤ sizeLine := by simpa only [PyData.shown] using hz
      have ok' : PyData.showable (.str k) = true ∧ d.showable = true := by simpa [PyData.showable, PyData.showableKv] using ok
      have one : ∀ t ∈ PyData.shownKv [(.str k, d)], t.length ≤ sizeLine := fun t ht => Nat.le_trans (dictText_mem_le ht) hz'
      cases rel with
      | @cons p q _ _ pq rest =>
        cases rest
        obtain ⟨qk, qv⟩ := q
        obtain ⟨e1, rv⟩ := pq
        dsimp only at e1 rv
        subst e1
        obtain ⟨en, e0, ek, ev⟩ : ∃ en, es.toList = [en] ∧ keyIs (Sum.inr k) en.key = true ∧ en.val = qv := by
          cases q : es.toList with
          | nil => rw [q] at hp; cases hp
          | cons a b =>
            rw [q] at hp
            cases hp with
            | cons h1 h2 h3 =>
              cases h3
              exact ⟨a, rfl, h1, h2⟩
        obtain ⟨t, ek'⟩ := Value.isStrOf_shape (x := k) (v := en.key) ek
        have z1 : (PyData.shown (.str k)).length ≤ sizeLine := by
          obtain ⟨p, hp, hl⟩ := PyData.shownKv_key_le [(.str k, d)] (PyData.shown (.str k)) (by simp only [List.map_cons, PyData.shownAll]; exact List.mem_cons_self ..)
          exact Nat.le_trans hl (one p hp)
        have z2 : d.shown.length ≤ sizeLine := by
          obtain ⟨p, hp, hl⟩ := PyData.shownKv_val_le [(.str k, d)] d.shown (by simp only [List.map_cons, PyData.shownAll]; exact List.mem_cons_self ..)
          exact Nat.le_trans hl (one p hp)
        refine Rk.dict he hx.1 hd hs ?_ ?_
        · rw [e0]
          show Rks _ _ _ [en.key] [PyData.str k]
          rw [ek']
          exact Rks.cons (Rk.leaf (.str k t) (by simp only [PyData.shown]; exact ReprIs.str k t (by simpa only [PyData.shown] using z1))) ⟨⟨_, .nil⟩, [], (fun _ z => nomatch z), .nil⟩
        · rw [e0]
          show Rks _ _ _ [en.val] [d]
          rw [ev]
          exact Rks.cons (DK.rk I d v qv r' rv ok'.2 z2) ⟨⟨_, .nil⟩, [], (fun _ z => nomatch z), .nil⟩
  | .dict (_ :: _ :: _), _, _, h, _, _, _ => by cases h
theorem DKs.rks (I : L2.Inv X pins σ H s) : ∀ (ds : List PyData) (vs : List V) (us : List Value), DKs H vs ds → L2.Vals vs us → PyData.showableAll ds = true → (∀ t ∈ PyData.shownAll ds, t.length ≤ sizeLine) → Rks X.prog X.w s.heap us ds
  | [], _, _, h, r, _, _ => by
    cases h; cases r
    exact ⟨⟨_, .nil⟩, [], (fun _ z => nomatch z), .nil⟩
  | d :: ds, _, _, h, r, ok, hz => by
    have ok' : d.showable = true ∧ PyData.showableAll ds = true := by simpa [PyData.showableAll] using ok
    cases h with
    | cons h1 h2 =>
      cases r with
      | cons r1 r2 =>
        exact Rks.cons (DK.rk I d _ _ h1 r1 ok'.1 (hz _ (by simp only [PyData.shownAll]; exact List.mem_cons_self ..))) (DKs.rks I ds _ _ h2 r2 ok'.2 fun t ht => hz t (by simp only [PyData.shownAll]; exact List.mem_cons_of_mem _ ht))
end
end
/-- repr of a list -/
def rRepr : List V → Hp → VK → Prop := fun xs H Q => ∃ (a : Addr) (ds : List PyData), xs = [.ref a] ∧ DK H (.ref a) (.list ds) ∧ Shows sizeLine 20 (.list ds) ∧ Q (.str (PyData.shown (.list ds))) H
theorem call_reprD {X : Cx} (hg : X.A.guards = some []) (hu : X.A.units + 40 < cLine) : CallR X (.builtin "repr") rRepr := by
  intro pins s σ H xs us Q I r h
  obtain ⟨a, ds, rfl, hd, S, q⟩ := h
  obtain ⟨u, rfl, rv⟩ := vals1 r
  cases (show u = Value.ref a from rv)
  have rk : Rk X.prog X.w s.heap (.ref a) (.list ds) := DK.rk I (.list ds) (.ref a) (.ref a) hd rfl S.ok S.len
  cases hd with
  | lst e r' =>
    obtain ⟨_, its, n, rvs, he⟩ := (show ObjOk X.prog X.w H s.heap _ (.lst _) from I.hok _ _ e)
    have hz' : (listText (PyData.shownAll ds)).length ≤ sizeLine := by simpa only [PyData.shown] using S.len
    have rks := DKs.rks I ds _ its r' rvs (by simpa [PyData.showable] using S.ok) fun t ht => Nat.le_trans (listText_mem_le ht) hz'
    obtain ⟨⟨as, ra⟩, bs, m, k⟩ := rks
    have rd : Reads s.heap (.ref a) (.list ds) (a :: as) := .list he rfl rfl ra
    have out : a ∉ bs := not_mem_of_deeper rd (by simp only [PyData.depth]; omega) m
    have dep : PyData.depthAll ds + 1 ≤ 20 := by simpa only [PyData.depth] using S.dep
    have fin : ∀ h' u tk, (∀ b o, s.heap.get? b = some o → h'.get? b = some o) → L2.EP X pins σ Q (.str (PyData.shown (.list ds)) u) { s with heap := h', toks := tk } := fun h' u tk kp => ⟨.str _, H, I.kept kp, ⟨_, rfl⟩, q⟩
    refine call_repr_slot (by omega) ⟨_, he, rfl⟩ PySem.F.slot_list_repr.toG ?_
    cases its with
    | nil =>
      cases ra
      refine call_list_repr_empty ⟨_, he, rfl⟩ he rfl ⟨_, _, rfl, ?_⟩
      have e0 : PyData.shown (.list []) = ("[]" : Str) := by simp only [PyData.shown, PyData.shownAll, listText_nil]
      rw [← e0]
      exact fin _ _ _ fun _ _ z => z
    | cons x l =>
      refine call_list_reprK he rfl rfl out (by simpa using k.length_eq) (fun i y e => k.item i y (by simpa using e)) (A := X.A.in1) hg (fun b _ => Clear.nil b) (by show X.A.units + 1 + _ < _; omega) (fun _ _ z => z) (fun h' u tk kp => ⟨_, _, rfl, ?_⟩) hz'
      have e0 : PyData.shown (.list ds) = listText (PyData.shownAll ds) := by simp only [PyData.shown]
      rw [← e0]
      exact fin h' u tk kp
end Mine

set_option Elab.async false
set_option linter.all false
set_option maxRecDepth 100000
set_option maxHeartbeats 4000000
/-! Promises of defs that are called where nothing is being shown (no repr runs): so that they may show data themselves. -/
namespace Mine
open PySem PySem.Spec L2
/-- a def's promise, kept wherever no repr is under way -/
structure FnG (P : Program) (w : World) (K : PySem.W.Frag) (mg : Str → Option Value) (base : Heap) (k : Nat) (f : Addr) (fd : FuncData) (ps : List Str) (sp : L2.Sp) : Prop where
  len : ∀ vs H Q E, sp vs H Q E → vs.length = ps.length
  run : ∀ (A : Around) (outer : List Env) (s : Shared) (H : Hp) (args : Args) (us : List Value) (vs : List V) (Q : L2.VK) (E : L2.XK), L2.Room k A → A.guards = some [] → L2.Env0 P w K mg base A outer s H → BindsTo s fd args (ps.zip us) → L2.Vals vs us → sp vs H Q E →
    codeAny (model P w) A (.call (.ref f) args) (L2.CR L2.CX0 outer P w H s Q E) s
theorem fnG_of {P : Program} {w : World} {K : PySem.W.Frag} {mg : Str → Option Value} {base : Heap} {k : Nat} {x qual : Str} {st : Stmt} {f : Addr} {fd : FuncData} {N ps : List Str} {sp : L2.Sp} (F : Fun K x qual st f fd) (S : FnScope N ps (defScope st))
    (len : ∀ vs H Q E, sp vs H Q E → vs.length = ps.length)
    (body : ∀ (cdv : Value) (A : Around) (outer : List Env) (s : Shared) (H : Hp) (vs : List V) (Q : L2.VK) (E : L2.XK), L2.Room k (A.deeper (PyProof.Rows.envOfC qual (defScope st) s.heap.objs.size f cdv)) → (A.deeper (PyProof.Rows.envOfC qual (defScope st) s.heap.objs.size f cdv)).guards = some [] → sp vs H Q E →
      ∃ t, PSs (cxOf CX0 P w K mg base N qual (defScope st) f cdv A outer s H E).nox (defBody st) t ∧ t { nx := fun _ H' => Q .non H', rt := Q } (start N vs) H) : FnG P w K mg base (k + 1) f fd ps sp := by
  obtain ⟨oc, od, kV, doc, pm, an, cdv, ct, osl, rfl, lk, hcd⟩ := F.ex
  refine ⟨len, fun A outer s H args us vs Q E hr hg e0 hb r q => ?_⟩
  have inS : ∀ b o, base.get? b = some o → s.heap.get? b = some o := fun b o z => (e0.bs b o z).1
  have hl := len _ _ _ _ q
  have kinds : ∀ y ∈ ps.zip us, (defScope st).names.lookup y.1 = some .local ∨ ((defScope st).names.lookup y.1 = some .cell ∧ ((cellsFrom (s.heap.objs.size + 1) (defScope st).names []).lookup y.1).isSome = true) := by
    intro y hy
    obtain ⟨n, v⟩ := y
    rcases S.par n (List.of_mem_zip hy).1 with z | z
    · exact .inl z
    · exact .inr ⟨z, PySem.W.cellsFrom_some _ _ _ (.inl z)⟩
  have KX := e0.mod.kin.keeps inS
  refine codeAny_call_function hr.depth (KX _ _ lk) rfl S.co S.gen rfl (PySem.W.codeRec_of KX hcd) (hb _ _ _ _ ?_)
  refine wpAny_newFunctionEnv_cells S.kind kinds fun env he s1 x => ?_
  subst he
  refine ⟨(e0.mod.nolimit.keeps inS).keeps x.toInCall.keep, codeAny_func ?_⟩
  obtain ⟨t, ht, hq⟩ := body cdv A outer s H vs Q E (hr.deeper _) hg q
  have I := inv_start (CX := CX0) (E := E) S hr.hd e0 hl r x
  refine wpAny_mono (ht.nox.run [] s1 (start N vs) H _ I hq) (fun fl s' hs => ?_) fun _ _ z => z
  have done : ∀ {σ' : L2.St} {H' : Hp} {v : V} {u : Value}, L2.Inv (cxOf CX0 P w K mg base N qual (defScope st) f cdv A outer s H E) [] σ' H' s' → L2.RelV v u → Q v H' → L2.CE outer P w H s Q u s' :=
    fun J rv z => ⟨_, _, J.os, J.bare, J.base, J.hok, rv, z⟩
  cases fl with
  | ret u =>
    obtain ⟨v, σ', H', J, rv, z⟩ := hs
    exact done J rv z
  | next =>
    obtain ⟨σ', H', J, z⟩ := hs
    exact done (v := V.non) (u := Value.none) J rfl z
  | brk =>
    obtain ⟨_, _, _, z⟩ := hs
    exact False.elim z
  | cont =>
    obtain ⟨_, _, _, z⟩ := hs
    exact False.elim z
section
variable {X : Cx} {k : Nat} {f : Addr} {fd : FuncData} {ps : List Str} {sp : L2.Sp} {x : Str} {p pos : Pos} {e : Expr} {es : List Expr} {t : L2.TA}
/-- such a def called -/
def tCallG (sp : L2.Sp) (t : L2.TA) : L2.TE := fun σ H Q => t σ H fun vs H1 => sp vs H1 Q fun _ _ _ => False
theorem pe_callG (F : FnG X.prog X.w X.K X.mg X.base k f fd ps sp) (hr : L2.Room k X.A) (hgd : X.A.guards = some []) (hg : Gl X x) (hm : X.mg x = some (.ref f)) (hk : PySem.W.keepIn X.K (.ref f) = true) (hb : L2.Binds X.K fd ps [])
    (ha : L2.PA X (e :: es) t) (hdb : (x == (PySem.Str.ofString "__debug__")) = false := by decide) (he : starEach (e :: es) X.env = (false, eval e X.env) :: starEach es X.env := by rfl) (hpl : (backTo pos (starEach es X.env)).any (·.1) = false := by rfl) :
    L2.PE X (.Call (.Name x p) (e :: es) [] pos) (tCallG sp t) := by
  refine ⟨fun pins s σ H Q I h => ?_⟩
  refine wpAny_Call_Name_kw (ld_glob I hg hm ?_ hdb)
  refine PySem.W.callWith_K (h₀ := X.base) I.ok.mod.kin hk (thn (ha.run pos pins s σ H _ I h) fun us s1 ⟨vs, H1, I1, r, q⟩ => ⟨I1.kIn, ?_⟩) he hpl
  have hl : us.length = ps.length := by
    rw [← r.length]
    exact F.len _ _ _ _ q
  have b := hb s1 us I1.kIn (by rw [List.append_nil]; exact hl)
  rw [List.append_nil] at b
  refine wpAny_call (codeAny_mono (F.run X.A X.stack s1 H1 ⟨us, []⟩ us vs Q _ hr hgd I1.env0 b r q) fun r s' hq => ?_)
  cases r with
  | error e => exact pass0 pins σ H1 s1 e s' I1 hq
  | ok fl =>
    cases fl with
    | ret u => exact I1.after hq
    | next => exact False.elim hq
    | brk => exact False.elim hq
    | cont => exact False.elim hq
end
end Mine
namespace Mine
open PySem PySem.Spec PyProof.Rows L2
/-! the law's own end -/
section
variable {P : Program} {w : World} {K : PySem.W.Frag} {mg mb : Str → Option Value} {k : Nat} {fa a : Addr} {fd : FuncData} {x : Str} {sp : L2.Sp} {s₁ : Shared} {vs : List Value} {ns : List Int}
/-- what is asked of the law's call -/
def LawEnd (P : Program) (w : World) (fa a : Addr) (s₁ : Shared) : Prop :=
  codeAny (model P w) callerA (.call (.ref fa) ⟨[.ref a], []⟩) (fun r s' => r = .ok (.ret (.bool true)) ∧ OldK s₁.heap s'.heap ∧ s'.os = s₁.os ∧ AllBare s'.gens) s₁
theorem end_from (KX : K.In s₁.heap) (hns : s₁.heap.Ns mainGlobals mg) (hb : s₁.heap.Ns builtinsNs mb) (hbb : ∀ x : Str, x ≠ "__name__" → mb x = bootBuiltins x) (hlim : s₁.heap.NoLimit) (hg : s₁.gens = #[])
    (ha : s₁.heap.get? a = some { cls := .type "list", data := .seq vs.toArray }) (hr : L2.Room k callerA)
    (F : ∀ base : Heap, K.In base → base.Ns mainGlobals mg → FnG P w K mg base k fa fd [x] sp) (hbind : ∀ (s : Shared) (u : Value), BindsTo s fd ⟨[u], []⟩ [(x, u)])
    (H : Hp) (hO : L2.Only H) (ok : L2.HOk P w H s₁.heap) (at_ : ∀ b, H b ≠ none → b = a) (notK : H a ≠ none → K.lookup a = none) (hsp : sp [.ref a] H (fun v _ => v = .bl true) fun _ _ _ => False) : LawEnd P w fa a s₁ := by
  have free : ∀ {b : Addr} {o : Obj} {es : Array DictEntry} {ep : Nat}, s₁.heap.get? b = some o → o.data = .dict es ep → H b = none := by
    intro b o es ep e d
    cases q : H b with
    | none => rfl
    | some u =>
      have z : b = a := at_ b (by rw [q]; exact fun y => nomatch y)
      subst z
      rw [ha] at e
      cases e
      cases d
  have names : ∀ {b : Addr} {m : Str → Option Value}, s₁.heap.Ns b m → (hidT s₁.heap H).Ns b m := fun {b m} ⟨o, es, ep, e, d, r⟩ => ⟨o, es, ep, hidT_get e (free e d), d, r⟩
  have Kb : K.In (hidT s₁.heap H) := fun b o e => hidT_get (KX b o e) (by
    cases q : H b with
    | none => rfl
    | some u =>
      have z : b = a := at_ b (by rw [q]; exact fun y => nomatch y)
      subst z
      rw [notK (by rw [q]; exact fun y => nomatch y)] at e
      cases e)
  have hM : L2.Mod K mg (hidT s₁.heap H) := ⟨Kb, names hns, ⟨mb, names hb, hbb⟩, let ⟨mc, h1, h2⟩ := hlim; ⟨mc, names h1, h2⟩⟩
  have e0 : L2.Env0 P w K mg (hidT s₁.heap H) callerA [] s₁ H := ⟨rfl, hM, fun b o e => of_hidT e, Nat.le_of_eq (hidT_size _ _), trivial, fun b z => absurd (show b ∈ ([] : List Addr) from z) (by simp), ok, .of_eq hg⟩
  refine codeAny_mono ((F _ Kb (names hns)).run callerA [] s₁ H ⟨[.ref a], []⟩ [.ref a] [.ref a] _ _ hr rfl e0 (hbind s₁ (.ref a)) (.cons rfl .nil) hsp) fun r s' h => ?_
  rcases r with e | fl
  · exact False.elim h
  cases fl with
  | next => exact False.elim h
  | brk => exact False.elim h
  | cont => exact False.elim h
  | ret u =>
    obtain ⟨v, H', os, bare, un, ok', r', q⟩ := h
    obtain rfl : v = .bl true := q
    obtain rfl : u = Value.bool true := r'
    refine ⟨rfl, OldK.of_keep fun b o e => ?_, os, bare⟩
    cases q : H b with
    | none => exact un.keep b o e q (fun z => absurd (show b ∈ ([] : List Addr) from z) (by simp)) (by simp)
    | some u =>
      rcases hO b with z | ⟨ob, xs, z⟩
      · rw [q] at z
        cases z
      · obtain ⟨e1, _⟩ := ok b _ z
        obtain ⟨e2, _⟩ := ok' b _ (un.frzs b ob _ z)
        rw [e] at e1
        cases e1
        exact e2
theorem law_callG (KX : K.In s₁.heap) (hns : s₁.heap.Ns mainGlobals mg) (hb : s₁.heap.Ns builtinsNs mb) (hbb : ∀ x : Str, x ≠ "__name__" → mb x = bootBuiltins x) (hlim : s₁.heap.NoLimit) (hg : s₁.gens = #[])
    (ha : s₁.heap.get? a = some { cls := .type "list", data := .seq vs.toArray }) (hi : IntsAre vs ns) (hl : ns.length ≤ sizeLine) (hr : L2.Room k callerA)
    (F : ∀ base : Heap, K.In base → base.Ns mainGlobals mg → FnG P w K mg base k fa fd [x] sp) (hbind : ∀ (s : Shared) (u : Value), BindsTo s fd ⟨[u], []⟩ [(x, u)])
    (hsp : ∀ H : Hp, L2.Only H → SqL K H a (ns.map V.int) → sp [.ref a] H (fun v _ => v = .bl true) fun _ _ _ => False) : LawEnd P w fa a s₁ := by
  have rv := vals_ints hi
  have lenV := hi.length
  cases hk : K.lookup a with
  | some o =>
    have e := KX a o hk
    rw [ha] at e
    cases e
    have none_ : L2.Only (fun _ => none) := fun _ => .inl rfl
    exact end_from KX hns hb hbb hlim hg ha hr F hbind _ none_ (fun _ _ z => nomatch z) (fun _ z => absurd rfl z) (fun z => absurd rfl z)
      (hsp _ none_ (.inr ⟨_, vs.toArray, _, hk, rfl, rfl, rfl, by rw [List.size_toArray, lenV]; exact hl, by simpa using rv⟩))
  | none =>
    let H1 : Hp := fun b => if b = a then some (.frz { cls := .type "list", data := .seq vs.toArray } (.lst (ns.map V.int))) else none
    have at1 : H1 a = some (.frz { cls := .type "list", data := .seq vs.toArray } (.lst (ns.map V.int))) := if_pos rfl
    have ne1 : ∀ {b}, b ≠ a → H1 b = none := fun h => if_neg h
    have only1 : L2.Only H1 := fun b => by
      by_cases h : b = a
      · exact .inr ⟨_, _, by rw [h]; exact at1⟩
      · exact .inl (ne1 h)
    refine end_from KX hns hb hbb hlim hg ha hr F hbind H1 only1 (fun b u z => ?_) (fun b z => ?_) (fun _ => hk) (hsp _ only1 (.inl (.inr ⟨_, at1⟩)))
    · by_cases h : b = a
      · subst h
        rw [at1] at z
        cases z
        exact ⟨ha, by rw [List.length_map]; exact hl, vs, _, rv, ha⟩
      · rw [ne1 h] at z
        cases z
    · by_cases h : b = a
      · exact h
      · exact absurd (ne1 h) z
end
theorem walkG {l : PySem.W.OpenLaw} {n k : Nat} {q : Program} {loose : List Str} {XP : (Str → Option Value) → Heap → Prop} {YP : World → Heap → Prop} {d : DefRec} {K : Params → PySem.W.Frag} {sp : PySem.W.Frag → L2.Sp} {x : Str}
    (hn : l.most = some n) (hn2 : n ≤ sizeLine) (hdf : d.params.defaults = []) (hr : L2.Room k callerA) (hY : ∀ (w : World) (h : Heap), YP w h → (K w.params).In h)
    (F : ∀ (w : World) (mg : Str → Option Value) (fa : Addr) (h : Heap), (K w.params).In h → h.Ns mainGlobals mg → mg d.name = some (.ref fa) →
      ∃ fd : FuncData, (∀ (s : Shared) (u : Value), BindsTo s fd ⟨[u], []⟩ [(x, u)]) ∧ ∀ base : Heap, (K w.params).In base → base.Ns mainGlobals mg → FnG l.prog w (K w.params) mg base k fa fd [x] (sp (K w.params)))
    (hsp : ∀ (K : PySem.W.Frag) (H : Hp) (a : Addr) (ns : List Int), ns.length ≤ n → L2.Only H → SqL K H a (ns.map V.int) → sp K [.ref a] H (fun v _ => v = .bl true) fun _ _ _ => False) :
    PySem.W.WalkO q loose XP YP l.row.toRowW d [] (fun f vs => PySem.call f vs) := by
  refine Att.attach_call hn hdf fun w s₀ s₁ mg mb fa o pm cd doc a vs ns G Y ho hd hcd hmg hobj hints hlen hg => ?_
  have KX := hY w _ Y
  obtain ⟨fd, hb, hF⟩ := F w mg fa _ KX G.T.g hmg
  exact law_callG KX G.T.g G.T.b G.T.builtins G.T.nolimit hg hobj hints (Nat.le_trans hlen hn2) hr hF hb fun H hO hS => hsp (K w.params) H a ns hlen hO hS
end Mine

set_option Elab.async false
set_option linter.all false
set_option maxRecDepth 100000
set_option maxHeartbeats 4000000
/-! tuple(xs) as a plain tuple; dict(t) of a plain tuple of pairs. -/
namespace Mine
open PySem PySem.Spec PyProof.Rows L2
/-- a tuple that has no dict of its own -/
def TupN (K : PySem.W.Frag) (H : Hp) (a : Addr) (xs : List V) : Prop := (∃ o, H a = some (.frz o (.tup xs)) ∧ o.dict = none) ∨ (SqT K H a xs ∧ ∃ o, K.lookup a = some o ∧ o.dict = none)
theorem TupN.sq {K : PySem.W.Frag} {H : Hp} {a : Addr} {xs : List V} (h : TupN K H a xs) : SqT K H a xs := by
  rcases h with ⟨o, e, _⟩ | ⟨h, _⟩
  · exact .inl (.inr ⟨o, e⟩)
  · exact h
section
variable {X : Cx} {pins : List (Addr × Obj)} {σ : L2.St} {H : Hp} {s : Shared}
theorem call_tupleF : CallR X (.type "tuple") (fun xs H Q => ∃ p ys, xs = [.ref p] ∧ SqL X.K H p ys ∧ ∀ l o, H l = none → o.dict = none → Q (.ref l) (upd H l (.frz o (.tup ys)))) := by
  intro pins s σ H xs us Q I r h
  obtain ⟨p, ys, rfl, hq, q⟩ := h
  obtain ⟨u, rfl, rx⟩ := vals1 r
  cases rx
  obtain ⟨its, r', pl, hz⟩ := I.list hq
  have hlen := r'.length
  refine call_tuple_list pl.isList (fun h' kp => ?_) (by simp only [List.size_toArray] <;> omega)
  have I1 : L2.Inv X pins σ H { s with heap := h' } := I.kept (t' := s.toks) kp
  have I2 : L2.Inv X pins σ (upd H h'.objs.size (.frz { cls := .type "tuple", data := .seq its.toArray } (.tup ys))) { s with heap := h'.push { cls := .type "tuple", data := .seq its.toArray } } :=
    I1.laid (t' := s.toks) (fun b o e => Heap.get?_push_of_some _ e) (Nat.le_refl _) (show ObjOk X.prog X.w _ _ _ (.frz _ (.tup ys)) from ⟨Heap.get?_push_size _ rfl, hz, its, r', IsTup.new _ _⟩)
  exact ⟨.ref h'.objs.size, _, I2, rfl, q _ _ (I1.hok.fresh (Nat.le_refl _)) rfl⟩
theorem tupN_at {a : Addr} {xs : List V} (I : L2.Inv X pins σ H s) (h : TupN X.K H a xs) : ∃ (its : List Value) (o : Obj) (n : Nat), Vals xs its ∧ s.heap.get? a = some o ∧ o.cls = .type "tuple" ∧ o.dict = none ∧ o.data = .seq its.toArray n ∧ xs.length ≤ sizeLine := by
  rcases h with ⟨o, e, hd⟩ | ⟨h, o, hk, hd⟩
  · obtain ⟨g, hz, its, rv, o', ho, hc, n, hdat⟩ := (show ObjOk X.prog X.w H s.heap _ (.frz o (.tup xs)) from I.hok _ _ e)
    rw [g] at ho
    cases ho
    exact ⟨its, o, n, rv, g, hc, hd, hdat, hz⟩
  · obtain ⟨its, rv, ⟨o', ho, hc, n, hdat⟩, hz⟩ := I.tuple h
    have g := I.kIn a o hk
    rw [g] at ho
    cases ho
    exact ⟨its, o, n, rv, g, hc, hd, hdat, hz⟩
theorem pairs_all (I : L2.Inv X pins σ H s) : ∀ {ps : List Addr} {kvs : List (Key × V)}, Paired (fun p kv => SqT X.K H p [kV kv.1, kv.2]) ps kvs →
    ∃ L : List (Addr × Key × Value × Value), ps = L.map (·.1) ∧ KV kvs (L.map fun x => (x.2.1, x.2.2.2)) ∧ ∀ x ∈ L, IsTup s.heap x.1 #[x.2.2.1, x.2.2.2] ∧ keyIs x.2.1 x.2.2.1 = true
  | _, _, .nil => ⟨[], rfl, .nil, fun _ z => (List.not_mem_nil z).elim⟩
  | _, _, .cons (a := p) (b := kv) h t => by
    obtain ⟨L, e, r, hp⟩ := pairs_all I t
    obtain ⟨its, rv, ht, _⟩ := I.tuple h
    obtain ⟨u, y, ei, ru, ry⟩ := vals2 rv
    subst ei
    refine ⟨(p, kv.1, u, y) :: L, by rw [e]; rfl, .cons ⟨rfl, ry⟩ r, fun x hx => ?_⟩
    rcases List.mem_cons.mp hx with rfl | hx
    · exact ⟨ht, kV_is (P := X.prog) (w := X.w) ru⟩
    · exact hp x hx
theorem call_dictPT (hcalm : X.calm = true) : CallR X (.type "dict") (fun xs H Q => ∃ (a : Addr) (ps : List Addr) (kvs : List (Key × V)), xs = [.ref a] ∧ TupN X.K H a (ps.map V.ref) ∧ Paired (fun p kv => SqT X.K H p [kV kv.1, kv.2]) ps kvs ∧
    ∀ p, H p = none → Q (.ref p) (upd H p (.dK (mergeK [] kvs)))) := by
  intro pins s σ H xs us Q I r q
  obtain ⟨a, ps, kvs, ex, hq, hp, q⟩ := q
  subst ex
  obtain ⟨u, eu, rx⟩ := vals1 r
  subst eu
  cases rx
  obtain ⟨its, o, n, rv, ho, hc, hd, hdat, hz⟩ := tupN_at I hq
  have ei := refs_at rv
  subst ei
  rw [List.length_map] at hz
  obtain ⟨L, el, rel, hL⟩ := pairs_all I hp
  subst el
  rw [List.length_map] at hz
  have ok : PlainSeq "tuple" s.heap a ((L.map (·.1)).map Value.ref).toArray ∧ PairItems s.heap ((L.map (·.1)).map Value.ref).toArray (fun j => (L.map (·.1)).getD j 0) (L.map fun x => (x.2.2.1, x.2.2.2)) := by
    refine ⟨⟨o, n, ho, hc, hd, hdat⟩, by simp, fun j k v e => ?_⟩
    rw [List.getElem?_map] at e
    obtain ⟨x, hx, e⟩ := Option.map_eq_some_iff.mp e
    cases e
    have hj : (L.map (·.1))[j]? = some x.1 := by rw [List.getElem?_map, hx]; rfl
    refine ⟨by simp [hx, List.getD], .inl ?_⟩
    have : (L.map (·.1)).getD j 0 = x.1 := by rw [List.getD, hj]; rfl
    show s.heap.IsTuple ((L.map (·.1)).getD j 0) #[x.2.2.1, x.2.2.2]
    rw [this]
    exact (hL x (List.mem_of_getElem? hx)).1
  have hv : PairsHave (mixKind X.prog X.w) (L.map fun x => (x.2.2.1, x.2.2.2)).length (PairRel (L.map fun x => (x.2.2.1, x.2.2.2))) (L.map fun x => (x.2.1, x.2.2.2)) := by
    refine ⟨by simp, fun i key v e => ?_⟩
    have e : (L.map fun x => (x.2.2.1, x.2.2.2))[i]? = some (key, v) := e
    rw [List.getElem?_map] at e
    obtain ⟨x, hx, e⟩ := Option.map_eq_some_iff.mp e
    cases e
    exact ⟨x.2.1, by rw [List.getElem?_map, hx]; rfl, (hL x (List.mem_of_getElem? hx)).2⟩
  refine PySem.call_dict_pairs (PairArg.tuple a _ _ _) (I.ok.hd hcalm) ok hv (by rw [List.length_map]; exact hz) fun h' tk hd' k => ?_
  have hm : (s.heap.objs.size == sysModules) = false := beq_eq_false_iff_ne.mpr (Nat.ne_of_gt I.big)
  have hlen : (mergeK [] kvs).length ≤ sizeLine := by
    refine Nat.le_trans (length_mergeK kvs []) ?_
    rw [List.length_nil, Nat.zero_add, rel.length, List.length_map]
    exact hz
  exact ⟨.ref s.heap.objs.size, upd H s.heap.objs.size (.dK (mergeK [] kvs)), I.laid (t' := tk) (fun b o e => k b o (List.not_mem_nil) e) (Nat.le_refl _) (show ObjOk X.prog X.w _ _ _ (.dK (mergeK [] kvs)) from ⟨hlen, hm, merged [] _, KV.merge rel .nil, hd'⟩), rfl, q _ (I.hok.fresh (Nat.le_refl _))⟩
end
end Mine

set_option Elab.async false
set_option linter.all false
set_option maxRecDepth 100000
set_option maxHeartbeats 4000000
/-! The text of a list in which plain tuples stand, too. -/
namespace Mine
open PySem PySem.Spec PyProof.Rows L2
/-- a plain tuple -/
def Fz (H : Hp) (a : Addr) (xs : List V) : Prop := ∃ o, H a = some (.frz o (.tup xs)) ∧ o.dict = none
theorem Fz.sq {K : PySem.W.Frag} {H : Hp} {a : Addr} {xs : List V} (h : Fz H a xs) : SqT K H a xs := let ⟨o, e, _⟩ := h; .inl (.inr ⟨o, e⟩)
theorem Fz.n {K : PySem.W.Frag} {H : Hp} {a : Addr} {xs : List V} (h : Fz H a xs) : TupN K H a xs := .inl h
theorem Fz.upd {H : Hp} {a q : Addr} {xs : List V} {o : HO} (h : Fz H a xs) (hq : H q = none) : Fz (upd H q o) a xs := let ⟨o', e, d⟩ := h; ⟨o', (upd_ne (ne_of_none e hq)).trans e, d⟩
inductive DZ (H : Hp) : V → PyData → Prop
  | dk {v : V} {d : PyData} : DK H v d → DZ H v d
  | fz {a : Addr} {xs : List V} {ds : List PyData} : Fz H a xs → DKs H xs ds → DZ H (.ref a) (.tuple ds)
inductive DZs (H : Hp) : List V → List PyData → Prop
  | nil : DZs H [] []
  | cons {v : V} {vs : List V} {d : PyData} {ds : List PyData} : DZ H v d → DZs H vs ds → DZs H (v :: vs) (d :: ds)
section
variable {X : Cx} {pins : List (Addr × Obj)} {σ : L2.St} {H : Hp} {s : Shared}
theorem DZ.rk (I : L2.Inv X pins σ H s) {d : PyData} {v : V} {u : Value} (h : DZ H v d) (r : L2.RelV v u) (ok : d.showable = true) (hz : d.shown.length ≤ sizeLine) : Rk X.prog X.w s.heap u d := by
  cases h with
  | dk h => exact DK.rk I d v u h r ok hz
  | @fz a xs ds f r' =>
    obtain ⟨o, e, _⟩ := f
    cases r
    obtain ⟨_, _, its, rv, o, he, hc, n, hd⟩ := (show ObjOk X.prog X.w H s.heap _ (.frz _ (.tup _)) from I.hok _ _ e)
    have hz' : (tupleText (PyData.shownAll ds)).length ≤ sizeLine := by simpa only [PyData.shown] using hz
    exact Rk.tuple he hc hd (DKs.rks I ds _ its r' rv (by simpa [PyData.showable] using ok) fun t ht => Nat.le_trans (tupleText_mem_le ht) hz')
theorem DZs.rks (I : L2.Inv X pins σ H s) : ∀ (ds : List PyData) (vs : List V) (us : List Value), DZs H vs ds → L2.Vals vs us → PyData.showableAll ds = true → (∀ t ∈ PyData.shownAll ds, t.length ≤ sizeLine) → Rks X.prog X.w s.heap us ds
  | [], _, _, h, r, _, _ => by
    cases h; cases r
    exact ⟨⟨_, .nil⟩, [], (fun _ z => nomatch z), .nil⟩
  | d :: ds, _, _, h, r, ok, hz => by
    have ok' : d.showable = true ∧ PyData.showableAll ds = true := by simpa [PyData.showableAll] using ok
    cases h with
    | cons h1 h2 =>
      cases r with
      | cons r1 r2 =>
        exact Rks.cons (DZ.rk I h1 r1 ok'.1 (hz _ (by simp only [PyData.shownAll]; exact List.mem_cons_self ..))) (DZs.rks I ds _ _ h2 r2 ok'.2 fun t ht => hz t (by simp only [PyData.shownAll]; exact List.mem_cons_of_mem _ ht))
end
/-- repr of a list -/
def rReprZ : List V → Hp → VK → Prop := fun xs H Q => ∃ (a : Addr) (vs : List V) (ds : List PyData), xs = [.ref a] ∧ H a = some (.lst vs) ∧ DZs H vs ds ∧ Shows sizeLine 20 (.list ds) ∧ Q (.str (PyData.shown (.list ds))) H
theorem call_reprZ {X : Cx} (hg : X.A.guards = some []) (hu : X.A.units + 40 < cLine) : CallR X (.builtin "repr") rReprZ := by
  intro pins s σ H xs us Q I r h
  obtain ⟨a, vs, ds, rfl, e, r', S, q⟩ := h
  obtain ⟨u, rfl, rv⟩ := vals1 r
  cases (show u = Value.ref a from rv)
  obtain ⟨_, its, n, rvs, he⟩ := (show ObjOk X.prog X.w H s.heap _ (.lst _) from I.hok _ _ e)
  have hz' : (listText (PyData.shownAll ds)).length ≤ sizeLine := by simpa only [PyData.shown] using S.len
  have rks := DZs.rks I ds _ its r' rvs (by simpa [PyData.showable] using S.ok) fun t ht => Nat.le_trans (listText_mem_le ht) hz'
  obtain ⟨⟨as, ra⟩, bs, m, k⟩ := rks
  have rd : Reads s.heap (.ref a) (.list ds) (a :: as) := .list he rfl rfl ra
  have out : a ∉ bs := not_mem_of_deeper rd (by simp only [PyData.depth]; omega) m
  have dep : PyData.depthAll ds + 1 ≤ 20 := by simpa only [PyData.depth] using S.dep
  have fin : ∀ h' u tk, (∀ b o, s.heap.get? b = some o → h'.get? b = some o) → L2.EP X pins σ Q (.str (PyData.shown (.list ds)) u) { s with heap := h', toks := tk } := fun h' u tk kp => ⟨.str _, H, I.kept kp, ⟨_, rfl⟩, q⟩
  refine call_repr_slot (by omega) ⟨_, he, rfl⟩ PySem.F.slot_list_repr.toG ?_
  cases its with
  | nil =>
    cases ra
    refine call_list_repr_empty ⟨_, he, rfl⟩ he rfl ⟨_, _, rfl, ?_⟩
    have e0 : PyData.shown (.list []) = ("[]" : Str) := by simp only [PyData.shown, PyData.shownAll, listText_nil]
    rw [← e0]
    exact fin _ _ _ fun _ _ z => z
  | cons x l =>
    refine call_list_reprK he rfl rfl out (by simpa using k.length_eq) (fun i y e => k.item i y (by simpa using e)) (A := X.A.in1) hg (fun b _ => Clear.nil b) (by show X.A.units + 1 + _ < _; omega) (fun _ _ z => z) (fun h' u tk kp => ⟨_, _, rfl, ?_⟩) hz'
    have e0 : PyData.shown (.list ds) = listText (PyData.shownAll ds) := by simp only [PyData.shown]
    rw [← e0]
    exact fin h' u tk kp
end Mine

set_option Elab.async false
set_option linter.all false
set_option maxRecDepth 100000
set_option maxHeartbeats 4000000
/-! o.m(k1 = .., k2 = ..) of a method with two parameters, named the other way round. -/
namespace Mine
open PySem PySem.Spec PyProof.Rows L2
section
variable {X : Cx} {k : Nat} {f C : Addr} {fd : FuncData} {ps : List Str} {sp : L2.Sp} {m k1 k2 : Str} {pos apos : Pos} {o : Expr} {kws : List Keyword} {ta : TE} {tk : TA}
def tMethK2 (C : Addr) (m : Str) (sp : L2.Sp) (ta : TE) (tk : TA) : TE := fun σ H Q => ta σ H fun x H1 => ∃ a dx fs, x = .ref a ∧ H1 a = some (.ins C dx fs) ∧ fs.lookup m = none ∧ tk σ H1 fun zs H2 => ∃ u v, zs = [u, v] ∧ sp [x, v, u] H2 Q E0
theorem pe_methK2 {pl : Sem Bool} (he : PE X o ta) (c : Cls X.K C) (hm : Meth X.K C m f) (F : FnOk X.prog X.w X.K X.mg X.base CX0 k f fd ps sp) (hr : Room k X.A) (hps : ps.length = 3)
    (hb : ∀ (s : Shared) (a u v : Value), BindsTo s fd ⟨[a], [(k1, u), (k2, v)]⟩ (ps.zip [a, v, u])) (hkw : PK X kws tk)
    (hall : (backToKw pos (keywordEach kws X.env)).all (·.1.isSome) = true := by rfl) (hks : (backToKw pos (keywordEach kws X.env)).filterMap (·.1) = [k1, k2] := by rfl)
    (hpl : ((backTo pos (starEach [] X.env)).any (·.1) || (backToKw pos (keywordEach kws X.env)).any (·.1.isNone)) = false := by rfl)
    (ht : eval (.Call (.Attribute o m apos) [] kws pos) X.env = (do
      let ov ← eval o X.env
      standAt apos.atName
      let (f, first) ← holding [ov] (getMethod ov m pl)
      callWith pos f first (backTo pos (starEach [] X.env)) (backToKw pos (keywordEach kws X.env))) := by rfl) :
    PE X (.Call (.Attribute o m apos) [] kws pos) (tMethK2 C m sp ta tk) := by
  refine ⟨fun pins s σ H Q I h => ?_⟩
  refine PySem.W.methodCall_KW (pl := pl) (thn (he.run pins s σ H _ I h) fun u s1 ⟨x, H1, I1, rx, a, dx, fs, ex, ea, l, q⟩ => ?_) ht
  subst ex
  obtain rfl : u = Value.ref a := rx
  refine getmeth_ok I1 ea c hm l ?_
  refine PySem.W.callWith_KW0 (first := [.ref a]) (h₀ := X.base) I.ok.mod.kin hm.kp hall ?_ hpl
  refine thn (hkw.run pos pins s1 σ H1 _ I1 q) fun ws s2 ⟨zs, H2, I2, rz, uu, vv, ez, q2⟩ => ⟨I2.kIn, ?_⟩
  subst ez
  obtain ⟨w1, w2, ew, r1, r2⟩ := vals2 rz
  subst ew
  rw [hks]
  show wpAny _ _ (call (.ref f) [.ref a] [(k1, w1), (k2, w2)]) _ _ _
  refine wpAny_call (codeAny_mono (F.run X.A X.stack s2 H2 ⟨[.ref a], [(k1, w1), (k2, w2)]⟩ [.ref a, w2, w1] [.ref a, vv, uu] Q E0 hr I2.env0 (hb s2 (.ref a) w1 w2) (.cons rfl (.cons r2 (.cons r1 .nil))) q2) fun r s' hq => ?_)
  cases r with
  | error e => exact pass0 pins σ H2 s2 e s' I2 hq
  | ok fl =>
    cases fl with
    | ret u => exact I2.after hq
    | next => exact False.elim hq
    | brk => exact False.elim hq
    | cont => exact False.elim hq
end
end Mine

set_option Elab.async false
set_option linter.all false
set_option maxRecDepth 100000
set_option maxHeartbeats 4000000
/-! str(x) of an instance with a def for its text. -/
namespace Mine
open PySem PySem.Spec PyProof.Rows L2
section
variable {X : Cx} {n : Nat} {C f : Addr} {fd : FuncData} {ps : List Str} {sp : L2.Sp}
def rStrOwn (C : Addr) (sp : L2.Sp) : List V → Hp → VK → Prop := fun xs H Q => ∃ a dx fs, xs = [.ref a] ∧ H a = some (.ins C dx fs) ∧ sp [.ref a] H (fun v H' => ∃ y, v = .str y ∧ Q (.str y) H') E0
theorem call_strOwn (F : FnOk X.prog X.w X.K X.mg X.base CX0 n f fd ps sp) (hr : Room (n + 2) X.A) (hs : PySem.W.findIn X.K (.ref C) "__str__" = some (some (.ref f))) (hf : PySem.W.isFn X.K (.ref f) = true) (hb : Binds X.K fd ps []) : CallR X (.type "str") (rStrOwn C sp) := by
  intro pins s σ H xs us Q I r h
  obtain ⟨a, dx, fs, rfl, ha, hsp⟩ := h
  obtain ⟨u, rfl, rx⟩ := vals1 r
  cases rx
  obtain ⟨mA, J, _⟩ := ins_get I.hok ha
  obtain ⟨od, J, _⟩ := J.look
  have hr1 : Room (n + 1) X.A.in1 := Room.in1 hr
  have hr2 : Room n X.A.in1.in1 := hr1.in1
  refine PySem.W.kso_call hr2.units0 I.kIn J hs hf ?_
  have e0 : Env0 X.prog X.w X.K X.mg X.base X.A.in1.in1 X.stack s H := by
    have e := I.env0
    exact ⟨e.frames, e.mod, e.bs, e.bsz, e.funs, e.frf, e.hok, e.bare⟩
  have hl := F.len _ _ _ _ hsp
  have r2 : Vals [V.ref a] [Value.ref a] := .cons rfl .nil
  refine wpAny_call (codeAny_mono (F.run X.A.in1.in1 X.stack s H ⟨[.ref a], []⟩ [.ref a] [.ref a] _ E0 hr2 e0 (by
    have := hb s [.ref a] I.kIn (by simpa using hl)
    simpa using this) r2 hsp) fun r s' hq => ?_)
  cases r with
  | error e => exact pass0 pins σ H s e s' I hq
  | ok fl =>
    cases fl with
    | ret w =>
      obtain ⟨z, H', I', rz, y, ez, q⟩ := I.after hq
      subst ez
      obtain ⟨t, rfl⟩ := rz
      exact ⟨.str y, H', I', ⟨t, rfl⟩, q⟩
    | next => exact False.elim hq
    | brk => exact False.elim hq
    | cont => exact False.elim hq
end
end Mine

set_option Elab.async false
set_option linter.all false
set_option maxRecDepth 100000
set_option maxHeartbeats 4000000
/-! C.m(k = ..) of a classmethod with one parameter beside the class. -/
namespace Mine
open PySem PySem.Spec PyProof.Rows L2 ClX
section
variable {X : Cx} {k : Nat} {C p g : Addr} {mc : Value} {sp : L2.Sp} {fd : FuncData} {ps : List Str} {m k1 : Str} {pos apos : Pos} {o : Expr} {kws : List Keyword} {ta : TE} {tk : TA}
def tCMethK (C : Addr) (sp : L2.Sp) (ta : TE) (tk : TA) : TE := fun σ H Q => ta σ H fun x H1 => x = .ref C ∧ tk σ H1 fun zs H2 => ∃ v, zs = [v] ∧ sp [.ref C, v] H2 Q E0
theorem pe_cmethK {pl : Sem Bool} (he : PE X o ta) (r : CRead X.K C mc) (c : CMet X.K C mc m p g) (F : FnOk X.prog X.w X.K X.mg X.base CX0 k g fd ps sp) (hr : Room k X.A)
    (hb : ∀ (s : Shared) (a u : Value), BindsTo s fd ⟨[a], [(k1, u)]⟩ (ps.zip [a, u])) (hkw : PK X kws tk)
    (hall : (backToKw pos (keywordEach kws X.env)).all (·.1.isSome) = true := by rfl) (hks : (backToKw pos (keywordEach kws X.env)).filterMap (·.1) = [k1] := by rfl)
    (hpl : ((backTo pos (starEach [] X.env)).any (·.1) || (backToKw pos (keywordEach kws X.env)).any (·.1.isNone)) = false := by rfl)
    (ht : eval (.Call (.Attribute o m apos) [] kws pos) X.env = (do
      let ov ← eval o X.env
      standAt apos.atName
      let (f, first) ← holding [ov] (getMethod ov m pl)
      callWith pos f first (backTo pos (starEach [] X.env)) (backToKw pos (keywordEach kws X.env))) := by rfl) :
    PE X (.Call (.Attribute o m apos) [] kws pos) (tCMethK C sp ta tk) := by
  refine ⟨fun pins s σ H Q I h => ?_⟩
  refine PySem.W.methodCall_KW (pl := pl) (thn (he.run pins s σ H _ I h) fun u s1 ⟨x, H1, I1, rx, ex, q⟩ => ?_) ht
  subst ex
  obtain rfl : u = Value.ref C := rx
  refine getmethcm_ok I1 r c fun s2 I2 => ?_
  refine PySem.W.callWith_of hpl (PySem.W.keeps_M (K := X.K) (self := .ref C) c.fi) (evalArgs_kw2_nil hall ?_)
  refine thn (hkw.run pos _ s2 σ H1 _ I2 q) fun ws s3 ⟨zs, H2, I3, rz, v, ez, q2⟩ => ⟨⟨pin_at I3, I3.kIn⟩, ?_⟩
  subst ez
  obtain ⟨w1, ew, r1⟩ := vals1 rz
  subst ew
  rw [hks]
  show wpAny _ _ (call (.ref _) [] [(k1, w1)]) _ _ _
  have z : wpAny (model X.prog X.w) X.A (call (.ref s1.heap.objs.size) [] [(k1, w1)]) (EP X ((s1.heap.objs.size, PySem.W.methodObj (.ref g) (.ref C)) :: pins) σ Q) X.xe s3 := by
    refine wpAny_call (PySem.W.method_call (pin_at I3) (codeAny_mono (F.run X.A X.stack s3 H2 ⟨[.ref C], [(k1, w1)]⟩ [.ref C, w1] [.ref C, v] Q E0 hr I3.env0 (hb s3 (.ref C) w1) (.cons rfl (.cons r1 .nil)) q2) fun r s' hq => ?_))
    cases r with
    | error e => exact pass0 _ σ H2 s3 e s' I3 hq
    | ok fl =>
      cases fl with
      | ret u => exact I3.after hq
      | next => exact False.elim hq
      | brk => exact False.elim hq
      | cont => exact False.elim hq
  exact thn z fun _ _ y => unpinE y
end
end Mine

set_option Elab.async false
set_option linter.all false
set_option maxRecDepth 100000
set_option maxHeartbeats 4000000
/-! d.get(key, other) of a dict that the top has left. -/
namespace Mine
open PySem PySem.Spec PyProof.Rows L2
section
variable {X : Cx} {d : Addr} {es : Array DictEntry} {n : Nat} {o e f : Expr} {apos cpos : Pos} {td ty tx : TE}
def tKGet (K : PySem.W.Frag) (d : Addr) (td ty tx : TE) : TE := fun σ H Q => td σ H fun x H1 => x = .ref d ∧ ty σ H1 fun y H2 => tx σ H2 fun z H3 => ∃ (k : Str), y = .str k ∧
  ((PySem.W.nsIn K d k = some none ∧ Q z H3) ∨ ∃ (u0 : Value) (v0 : V), PySem.W.nsIn K d k = some (some u0) ∧ RelV v0 u0 ∧ Q v0 H3)
theorem pe_kget (D : KDict X.K X.w d es n) (ho : PE X o td) (he : PE X e ty) (hf : PE X f tx) (m : M2 X o "get" apos e f cpos) : PE X (.Call (.Attribute o "get" apos) [e, f] [] cpos) (tKGet X.K d td ty tx) := by
  refine ⟨fun pins s σ H Q I h => ?_⟩
  refine wpAny_Call_method m.base m.few m.line PySem.F.plainAttrs_dict PySem.F.slot_dict_get PySem.F.type_dict_get (thn (ho.run pins s σ H _ I h) fun u s1 ⟨x, H1, I1, rx, ex, q1⟩ => ?_)
  subst ex
  obtain rfl : u = Value.ref d := rx
  refine ⟨kd_type D I1, fun b q => ?_, ?_⟩
  · cases q
    exact ⟨_, I1.kIn _ _ D.at_, rfl⟩
  rw [m.trees]
  refine Calls.callWith_builtin rfl (Calls.evalArgs_plain (Calls.spliced_cons (thn (he.run pins s1 σ H1 _ I1 q1) fun iv s2 ⟨y, H2, I2, ry, q2⟩ =>
    Calls.spliced_cons (thn (hf.run pins s2 σ H2 _ I2 q2) fun fv s3 ⟨z, H3, I3, rz, k, ek, q3⟩ => Calls.spliced_nil ?_))))
  subst ek
  obtain ⟨t, rfl⟩ := ry
  have mp := PySem.W.mapOf_K (prog := X.prog) (w := X.w) I3.kIn D.at_ D.lit
  refine call_meetsIn PySem.F.slot_dict_get mp.typeIs PySem.F.entry_dict_get (PySem.F.args_dict_get_3 _ _ _) (meets_dict_get_default (strKind X.prog X.w) d (PySem.strKind_is X.prog X.w k t) D.low fv) ⟨_, mp, ?_⟩
  rcases q3 with ⟨e0, q⟩ | ⟨u0, v0, e0, r0, q⟩
  · rw [PySem.W.find_K D.at_ e0]
    exact ⟨z, H3, I3.tok _, rz, q⟩
  · rw [PySem.W.find_K D.at_ e0]
    exact ⟨v0, H3, I3.tok _, r0, q⟩
end
end Mine

set_option Elab.async false
set_option linter.all false
set_option maxRecDepth 100000
set_option maxHeartbeats 4000000
/-! A comprehension of two clauses over tuples. -/
namespace Mine
open PySem PySem.Spec PyProof.Rows L2
theorem in_tup {K : PySem.W.Frag} {a D : Addr} {xs : List V} {g1 : TG} {tt1 : TT} {te : TE} {vs1 : List Nat} {σ2 : L2.St} {H4 : Hp} {N : Hp → Prop} (Pw : Nat → Hp → Prop) (h0 : Pw 0 H4) (hl : ∀ i H, i ≤ xs.length → Pw i H → SqT K H a xs)
    (hs : ∀ j x H, xs[j]? = some x → Pw j H → g1 x (wipe σ2 vs1) H fun σ3 H5 => wipe σ3 vs1 = wipe σ2 vs1 ∧ tt1 σ3 H5 fun b H6 =>
      if b = true then te σ3 H6 fun y H7 => ∃ acc, H7 D = some (.lst acc) ∧ acc.length < sizeLine ∧ Pw (j + 1) (upd H7 D (.lst (acc ++ [y]))) else Pw (j + 1) H6) (hd : ∀ H, Pw xs.length H → N H) :
    ∃ W1 : Nat → Nat → Hp → Prop, (∃ m, W1 0 m H4) ∧ ∀ j k H, W1 j k H → ((Itt K a).stop j H ∧ N H) ∨ ((Itt K a).go j H ∧ ∃ Nx1 : Hp → Prop, (∀ H', Nx1 H' → ∃ k', k' < k ∧ W1 (j + 1) k' H') ∧
      ∀ x H', (Itt K a).yld j H x H' → g1 x (wipe σ2 vs1) H' fun σ3 H5 => wipe σ3 vs1 = wipe σ2 vs1 ∧ tt1 σ3 H5 fun b H6 => if b = true then te σ3 H6 fun y H7 => ∃ acc, H7 D = some (.lst acc) ∧ acc.length < sizeLine ∧ Nx1 (upd H7 D (.lst (acc ++ [y]))) else Nx1 H6) := by
  refine ⟨fun i m H => m = xs.length - i ∧ i ≤ xs.length ∧ Pw i H, ⟨xs.length, by simp, Nat.zero_le _, h0⟩, ?_⟩
  rintro i m H ⟨rfl, hi, p⟩
  have q := hl i H hi p
  by_cases hlt : i < xs.length
  · refine .inr ⟨⟨xs, xs[i], q, by simp [hlt]⟩, Pw (i + 1), fun H' p' => ⟨xs.length - (i + 1), by omega, rfl, hlt, p'⟩, fun x H' y => ?_⟩
    obtain ⟨e, y⟩ := y
    subst e
    exact hs i x _ (y xs q) p
  · have e : i = xs.length := by omega
    subst e
    exact .inl ⟨⟨xs, q, Nat.le_refl _⟩, hd H p⟩
/-- the first clause over a tuple: T i says the second clause's own loop, whose end is Pv (i + 1) -/
theorem out_tup {K : PySem.W.Frag} {a D : Addr} {xs : List V} {H1 : Hp} {Qd : Hp → Prop} {T : V → Hp → (Hp → Prop) → Prop} (Pv : Nat → Hp → Prop) (h0 : Pv 0 (upd H1 D (.lst []))) (hl : ∀ i H, i ≤ xs.length → Pv i H → SqT K H a xs)
    (hs : ∀ i x H, xs[i]? = some x → Pv i H → T x H (Pv (i + 1))) (hd : ∀ H, Pv xs.length H → Qd H) :
    ∃ W : Nat → Nat → Hp → Prop, (∃ m, W 0 m (upd H1 D (.lst []))) ∧ ∀ i m H, W i m H → ((Itt K a).stop i H ∧ Qd H) ∨ ((Itt K a).go i H ∧ ∃ Nx : Hp → Prop, (∀ H', Nx H' → ∃ m', m' < m ∧ W (i + 1) m' H') ∧ ∀ x H', (Itt K a).yld i H x H' → T x H' Nx) := by
  refine ⟨fun i m H => m = xs.length - i ∧ i ≤ xs.length ∧ Pv i H, ⟨xs.length, by simp, Nat.zero_le _, h0⟩, ?_⟩
  rintro i m H ⟨rfl, hi, p⟩
  have q := hl i H hi p
  by_cases hlt : i < xs.length
  · refine .inr ⟨⟨xs, xs[i], q, by simp [hlt]⟩, Pv (i + 1), fun H' p' => ⟨xs.length - (i + 1), by omega, rfl, hlt, p'⟩, fun x H' y => ?_⟩
    obtain ⟨e, y⟩ := y
    subst e
    exact hs i x _ (y xs q) p
  · have e : i = xs.length := by omega
    subst e
    exact .inl ⟨⟨xs, q, Nat.le_refl _⟩, hd H p⟩
end Mine

set_option Elab.async false
set_option linter.all false
set_option maxRecDepth 100000
set_option maxHeartbeats 4000000
/-! for i, x in enumerate(xs, start=c): a list numbered from c on. -/
namespace Mine
open PySem PySem.Spec PyProof.Rows L2
theorem callWith_typeK {M : Model} {A : Around} {E : Value → Shared → Prop} {s : Shared} {pos : Pos} {T : String} {first : List Value} {args : List (Bool × Sem Value)} {keywords : List (Option Str × Sem Value)} {Q : Value → Shared → Prop}
    (hplain : args.any (·.1) = false) (hkw : keywords.any (·.1.isNone) = false)
    (h : wpAny M A (evalArgs (.type T) true args keywords) (fun a s₁ => wpAny M A (call (.type T) (first ++ a.pos) a.kw) Q E s₁) E s) :
    wpAny M A (callWith pos (.type T) first args keywords) Q E s := by
  unfold callWith
  refine wpAny_bind (wpAny_holding (wpAny_mono h (fun a s₁ h₁ => wpAny_bind (wpAny_standAt ?_)) fun _ _ x => x))
  simp only [hplain, hkw, Bool.or_false]
  refine wpAny_bind (wpAny_pure ?_)
  exact wpAny_bind (wpAny_mono h₁ (fun r s₂ hr => wpAny_bind (wpAny_holding (wpAny_point (wpAny_pure hr)))) fun _ _ x => x)
/-- an enumerate object whose list is at its end, whatever its number -/
theorem enum_over {P : Program} {w : World} {A : Around} {E : Value → Shared → Prop} {s : Shared} {e it l : Addr} {i : Nat} {c : Int} {items : Array Value} {old : Value} {Q : Option Value → Shared → Prop} (hd : A.handled = none)
    (ob : IsEnum s.heap e it c old) (at_ : s.heap.IsListIter it l i) (ls : s.heap.IsList l items) (no : items[i]? = none) (go : ∀ h', Heap.ExtBut it s.heap h' → Q none { s with heap := h' }) :
    wpAny (model P w) A (pyNext (.ref e)) Q E s := by
  unfold pyNext
  have ty : s.TypeIs (.ref e) "enumerate" := ⟨_, ob, rfl⟩
  refine wpAny_bind (wpAny_attempt (wpAny_callSpecial?_slot (name := Str.ofString "__next__") ty F.slot_enumerate_next (wpAny_call_entry F.slot_enumerate_next ty F.entry_enumerate_next ?q1 (F.args_enumerate_next_1 _))))
  case q1 =>
    show wpAny _ _ (field (.ref e) 2 >>= _) _ _ _
    refine wpAny_bind (wpAny_field ob rfl (x := .ref it) rfl (wpAny_bind (wpAny_nextOf_list_end hd at_ ls no fun h' z eb hz => ?_)))
    obtain ⟨oz, gz, cz⟩ := hz
    exact wpAny_bind (wpAny_isInstance (T := "StopIteration") (b := true) ⟨oz, gz, cz⟩ isSubtype_stop (wpAny_pure (go _ eb)))
/-- item i of the list at a, numbered c + i, in a new pair -/
def IteS (K : PySem.W.Frag) (c : Int) (a : Addr) : It where
  go := fun i H => ∃ xs x, SqL K H a xs ∧ xs[i]? = some x
  yld := fun i H v H' => ∃ T x, v = .ref T ∧ H T = none ∧ H' = upd H T (.tup [.int (c + (i : Nat)), x]) ∧ ∀ xs, SqL K H a xs → xs[i]? = some x
  stop := fun i H => ∃ xs, SqL K H a xs ∧ xs.length ≤ i
/-- where such a walk stands: the number that comes next, the place in the list, and that the three objects are three -/
def EnAt (c : Int) (a e it : Addr) (i : Nat) (h : Heap) : Prop := (∃ old, IsEnum h e it (c + ((i : Nat) : Int)) old) ∧ h.IsListIter it a i ∧ e ≠ it ∧ a ≠ it ∧ a ≠ e
theorem EnAt.to {c : Int} {a e it : Addr} {i : Nat} {h h' : Heap} (x : EnAt c a e it i h) (ke : ∀ o, h.get? e = some o → h'.get? e = some o) (ki : ∀ o, h.get? it = some o → h'.get? it = some o) : EnAt c a e it i h' := by
  obtain ⟨⟨old, he⟩, hi, n⟩ := x
  exact ⟨⟨old, ke _ he⟩, hi.at ki, n⟩
theorem two_of {b e it : Addr} (h : b ∈ [e, it]) : b = e ∨ b = it := by simpa using h
theorem off_two {b e it : Addr} (h : b ∉ [e, it]) : b ≠ e ∧ b ≠ it := ⟨fun z => h (by simp [z]), fun z => h (by simp [z])⟩
theorem turn_enumS {P : Program} {w : World} {K : PySem.W.Frag} {elts : List Expr} {kk : Nat} {tpos : Pos} (c : Int) (a e it : Addr) : Turn P w K (.Tuple elts kk tpos) (IteS K c a) [e, it] e (EnAt c a e it) := by
  refine { mem := List.mem_cons_self .., obj := ?ob, keep := fun i h h' x k => x.to (k e (by simp)) (k it (by simp)), item := ?nx, done := ?en, self := fun A i s Q E x h => wpAny_pyIter_enum x.1.choose_spec h }
  case ob =>
    intro i h x b hb
    obtain ⟨⟨old, he⟩, ⟨o, ho, _, hd⟩, _⟩ := x
    rcases two_of hb with rfl | rfl
    · exact ⟨_, he, fun _ q => nomatch q⟩
    · refine ⟨o, ho, fun v q => ?_⟩
      rw [hd] at q
      cases q
  case nx =>
    rintro X rfl rfl rfl hc i pins s σ H E I hf ⟨⟨old, he⟩, hit, hne, n1, n2⟩ ⟨xs, x, hq, hx⟩
    obtain ⟨its, rv, pl, _⟩ := I.list hq
    obtain ⟨u, hu, ru⟩ := rv.get hx
    have le : e < s.heap.objs.size := Heap.lt_size he
    have li : it < s.heap.objs.size := Heap.lt_size hit.choose_spec.1
    have in_ : i < its.toArray.size := by simpa using (List.getElem?_eq_some_iff.mp hu).1
    have D := Draws.list (prog := X.prog) (w := X.w) (A := X.A.in1) (I.ok.hd hc) it a n1 its.toArray
    refine wpAny_pyNext_enum_itemC D he ⟨hit, pl.isList⟩ in_ hne (by simp [hne, Ne.symm n2]) fun z h1 tk hz out st1 tup _ kp => ?_
    obtain rfl : z = u := by
      have e2 : its.toArray[i]? = some u := by simpa using hu
      exact Option.some.inj ((show its.toArray[i]? = some z from hz).symm.trans e2)
    refine ⟨_, rfl, wpAny_letOwnedTupleGo_enum (s := { s with heap := h1, toks := tk + 1 }) out fun h2 he2 sb => ?_⟩
    have ob : ObjOk X.prog X.w (upd H s.heap.objs.size (.tup [.int (c + (i : Nat)), x])) h2 s.heap.objs.size (.tup [.int (c + (i : Nat)), x]) := by
      refine ⟨(by show 2 ≤ sizeLine; decide), [.int (c + (i : Nat)) tk, z], .cons ⟨_, rfl⟩ (.cons ru .nil), _, (sb.2 _ (Nat.ne_of_gt le)).trans tup, rfl, _, rfl⟩
    refine ⟨.ref s.heap.objs.size, _, I.turnedNew (t' := tk + 1) (ch := [e, it]) (fun b o hb g => (sb.2 b (off_two hb).1).trans (kp b o (off_two hb).1 (off_two hb).2 g)) hf (Nat.le_refl _) ob, rfl,
      ⟨_, x, rfl, I.hok.fresh (Nat.le_refl _), rfl, fun ys hy => I.list_inj hq hy ▸ hx⟩, ⟨⟨z, ?_⟩, st1.1.at fun o g => (sb.2 it (Ne.symm hne)).trans g, hne, n1, n2⟩, fun b hb => ?_⟩
    · rw [show c + ((i + 1 : Nat) : Int) = c + (i : Int) + 1 by omega]
      exact he2
    · have lb : b < s.heap.objs.size := (two_of hb).elim (fun z => z ▸ le) fun z => z ▸ li
      exact (upd_ne (Nat.ne_of_lt lb)).trans (hf b hb).1
  case en =>
    rintro X rfl rfl rfl hc i pins s σ H E I hf ⟨⟨old, he⟩, hit, _⟩ ⟨xs, hq, hx⟩
    obtain ⟨its, rv, pl, _⟩ := I.list hq
    have none_ : its.toArray[i]? = none := by
      have := rv.length
      simp
      omega
    obtain ⟨f0, f1, _, f3, f4, f5⟩ := hf it (by simp)
    exact enum_over (I.ok.hd hc) he hit pl.isList none_ fun h' eb => ⟨rfl, I.turned (t' := s.toks) (fun b o hb g => eb b o hb g) f0 f1 f3 f4 f5⟩
section
variable {X : Cx} {elts : List Expr} {kk : Nat} {p pos tpos kpos : Pos} {e : Expr} {ta : TA} {kp : Pos} {jj : Nat} {c : Int}
def iEnumS (K : PySem.W.Frag) (c : Int) (ta : TA) (tk : TA) : TI := fun σ H R => ta σ H fun vs H1 => ∃ a xs, vs = [.ref a] ∧ SqL K H1 a xs ∧ tk σ H1 fun zs H2 => zs = [.int c] ∧ SqL K H2 a xs ∧ -(2 ^ 63) ≤ c ∧ c < 2 ^ 63 ∧ R (IteS K c a) H2
theorem pi_enumS {kws : List Keyword} {tk : TA} (hg : Gl X "enumerate") (hm : X.mg "enumerate" = none) (ha : PA X [e] ta) (hk : PK X kws tk) (hs : starEach [e] X.env = [(false, eval e X.env)] := by rfl)
    (hall : (backToKw pos (keywordEach kws X.env)).all (·.1.isSome) = true := by rfl) (hks : (backToKw pos (keywordEach kws X.env)).filterMap (·.1) = [PySem.Str.ofString "start"] := by rfl) (hno : (backToKw pos (keywordEach kws X.env)).any (·.1.isNone) = false := by rfl) :
    PI X (.Tuple elts kk tpos) (.Call (.Name "enumerate" p) [e] kws pos) (iEnumS X.K c ta tk) := by
  refine ⟨fun pins s σ H R I h => ?_⟩
  refine wpAny_Call_Name_kw (ld_blt I hg hm boot_enumerate (callWith_typeK (by rw [hs]; rfl) hno (evalArgs_kw2 hall (thn (ha.run pos pins s σ H _ I h) fun us s1 ⟨vs, H1, I1, r1, q1⟩ => ?_) hs)))
  obtain ⟨a, xs, ex, hq, q⟩ := q1
  subst ex
  obtain ⟨u, rfl, r⟩ := vals1 r1
  cases r
  refine thn (hk.run pos pins s1 σ H1 _ I1 q) fun ws s2 ⟨zs, H2, I2, rz, ez, hq2, c0, c1, q2⟩ => ?_
  subst ez
  obtain ⟨w1, rfl, rw1⟩ := vals1 rz
  obtain ⟨tt, rfl⟩ := rw1
  rw [hks]
  obtain ⟨its, rv, pl, hz⟩ := I2.list hq2
  show wpAny _ _ (call (.type "enumerate") [.ref a] [(PySem.Str.ofString "start", .int c tt)]) _ _ _
  refine enum_begins_start (begins_list a its.toArray) pl.isList c0 c1 fun h' he hit hsz hkp => wpAny_pyIter_enum he ?_
  have I3 : L2.Inv X pins σ H2 { s2 with heap := h' } := I2.kept (t' := s2.toks) hkp
  have al : a < s2.heap.objs.size := by
    obtain ⟨o, ho, _⟩ := pl.isList
    exact Heap.lt_size ho
  refine ⟨s2.heap.objs.size + 1, [s2.heap.objs.size + 1, s2.heap.objs.size], _, _, H2, rfl, I3, turn_enumS c a (s2.heap.objs.size + 1) s2.heap.objs.size, ⟨⟨.none, ?_⟩, ⟨_, hit, rfl, rfl⟩, Nat.succ_ne_self _, Nat.ne_of_lt al, Nat.ne_of_lt (Nat.lt_succ_of_lt al)⟩, fun b hb => ?_, q2⟩
  · have e1 : c + ((0 : Nat) : Int) = c := by omega
    rw [e1]
    exact he
  · have hle : s2.heap.objs.size ≤ b := by
      have e' : b = s2.heap.objs.size + 1 ∨ b = s2.heap.objs.size := by simpa using hb
      rcases e' with z | z
      · rw [z]; exact Nat.le_add_right _ _
      · rw [z]; exact Nat.le_refl _
    exact I2.fpOk hle (I2.hok.fresh hle)
end
end Mine

set_option Elab.async false
set_option linter.all false
set_option maxRecDepth 100000
set_option maxHeartbeats 4000000
/-! cls(..): a call of a class that stands in a slot (the first parameter of a classmethod). -/
namespace Mine
open PySem PySem.Spec PyProof.Rows L2 ClX
section
variable {X : Cx} {CX : CXT} {k : Nat} {f C : Addr} {fd : FuncData} {ps : List Str} {ds : List Value} {dvs : List V} {sp : L2.Sp} {E : XK} {x : Str} {p pos : Pos} {e : Expr} {es : List Expr} {t : TA} {tn : TE}
def tMakeL (C : Addr) (sp : L2.Sp) (dvs : List V) (E : XK) (tn : TE) (t : TA) : TE := fun σ H Q => tn σ H fun y H1 => y = .ref C ∧ tMake C sp dvs E t σ H1 Q
theorem pe_makeL (M : Mk X.K C f) (F : FnOk X.prog X.w X.K X.mg X.base CX k f fd ps sp) (hr : Room (k + 1) X.A) (hn : PE X (.Name x p) tn) (hb : Binds X.K fd ps ds) (hd : Vals dvs ds) (hx : Passes CX X E)
    (ha : PA X (e :: es) t) (he : starEach (e :: es) X.env = (false, eval e X.env) :: starEach es X.env := by rfl) (hpl : (backTo pos (starEach es X.env)).any (·.1) = false := by rfl) :
    PE X (.Call (.Name x p) (e :: es) [] pos) (tMakeL C sp dvs E tn t) := by
  refine ⟨fun pins s σ H Q I h => ?_⟩
  refine PySem.wpAny_Call_Name_kw (thn (hn.run pins s σ H _ I h) fun u s1 ⟨y, H1, I1, ry, ey, q⟩ => ?_)
  subst ey
  obtain rfl : u = Value.ref C := ry
  refine PySem.W.callWith_K (h₀ := X.base) I1.ok.mod.kin M.kp (thn (ha.run pos pins s1 σ H1 _ I1 q) fun us s2 ⟨vs, H2, I2, r, q2⟩ => ⟨I2.kIn, ?_⟩) he hpl
  exact run_make M F hr hb hd hx I2 r q2
end
end Mine

set_option Elab.async false
set_option linter.all false
set_option maxRecDepth 100000
set_option maxHeartbeats 4000000
/-! The text of a list or a tuple, whose items stand anywhere: tracked, locked, or left by the top. -/
namespace Mine
open PySem PySem.Spec PyProof.Rows L2
section
variable {X : Cx} {pins : List (Addr × Obj)} {σ : L2.St} {H : Hp} {s : Shared}
mutual
theorem dp_rk (I : L2.Inv X pins σ H s) : ∀ (d : PyData) (v : V) (u : Value), Dp X.K H v d → L2.RelV v u → d.showable = true → d.shown.length ≤ sizeLine → Rk X.prog X.w s.heap u d
  | .none, _, _, h, r, _, _ => by
    cases h; cases r
    exact Rk.leaf .none (by simp only [PyData.shown]; exact ReprIs.none)
  | .bool b, _, _, h, r, _, _ => by
    cases h; cases r
    exact Rk.leaf (.bool b) (by simp only [PyData.shown]; exact ReprIs.bool b)
  | .int i, _, _, h, r, ok, _ => by
    cases h
    obtain ⟨t, rfl⟩ := r
    exact Rk.leaf (.int i t) (by simp only [PyData.shown]; exact ReprIs.int t (by simpa [PyData.showable] using ok))
  | .str x, _, _, h, r, _, hz => by
    cases h
    obtain ⟨t, rfl⟩ := r
    exact Rk.leaf (.str x t) (by simp only [PyData.shown]; exact ReprIs.str x t (by simpa only [PyData.shown] using hz))
  | .list ds, _, _, h, r, ok, hz => by
    cases h with
    | lst e r' =>
      cases r
      obtain ⟨its, rv, ⟨o, n, he, hc, _, hd⟩, _⟩ := I.list e
      have hz' : (listText (PyData.shownAll ds)).length ≤ sizeLine := by simpa only [PyData.shown] using hz
      exact Rk.list he hc hd (dps_rks I ds _ its r' rv (by simpa [PyData.showable] using ok) fun t ht => Nat.le_trans (listText_mem_le ht) hz')
  | .tuple ds, _, _, h, r, ok, hz => by
    cases h with
    | tup e r' =>
      cases r
      obtain ⟨its, rv, ⟨o, he, hc, n, hd⟩, _⟩ := I.tuple e
      have hz' : (tupleText (PyData.shownAll ds)).length ≤ sizeLine := by simpa only [PyData.shown] using hz
      exact Rk.tuple he hc hd (dps_rks I ds _ its r' rv (by simpa [PyData.showable] using ok) fun t ht => Nat.le_trans (tupleText_mem_le ht) hz')
  | .dict _, _, _, h, _, _, _ => by cases h
theorem dps_rks (I : L2.Inv X pins σ H s) : ∀ (ds : List PyData) (vs : List V) (us : List Value), DpAll X.K H vs ds → L2.Vals vs us → PyData.showableAll ds = true → (∀ t ∈ PyData.shownAll ds, t.length ≤ sizeLine) → Rks X.prog X.w s.heap us ds
  | [], _, _, h, r, _, _ => by
    cases h; cases r
    exact ⟨⟨_, .nil⟩, [], (fun _ z => nomatch z), .nil⟩
  | d :: ds, _, _, h, r, ok, hz => by
    have ok' : d.showable = true ∧ PyData.showableAll ds = true := by simpa [PyData.showableAll] using ok
    cases h with
    | cons h1 h2 =>
      cases r with
      | cons r1 r2 =>
        exact Rks.cons (dp_rk I d _ _ h1 r1 ok'.1 (hz _ (by simp only [PyData.shownAll]; exact List.mem_cons_self ..))) (dps_rks I ds _ _ h2 r2 ok'.2 fun t ht => hz t (by simp only [PyData.shownAll]; exact List.mem_cons_of_mem _ ht))
end
end
/-- repr of a list or a tuple -/
def rReprP (K : PySem.W.Frag) : List V → Hp → VK → Prop := fun xs H Q => ∃ (a : Addr) (vs : List V) (ds : List PyData), xs = [.ref a] ∧ DpAll K H vs ds ∧
  ((SqL K H a vs ∧ Shows sizeLine 20 (.list ds) ∧ Q (.str (PyData.shown (.list ds))) H) ∨ (SqT K H a vs ∧ Shows sizeLine 20 (.tuple ds) ∧ Q (.str (PyData.shown (.tuple ds))) H))
theorem call_reprP {X : Cx} (hg : X.A.guards = some []) (hu : X.A.units + 40 < cLine) : CallR X (.builtin "repr") (rReprP X.K) := by
  intro pins s σ H xs us Q I r h
  obtain ⟨a, vs, ds, rfl, r', h⟩ := h
  obtain ⟨u, rfl, rv⟩ := vals1 r
  cases (show u = Value.ref a from rv)
  rcases h with ⟨e, S, q⟩ | ⟨e, S, q⟩
  · obtain ⟨its, rvs, ⟨o, n, he, hc, hdn, hd⟩, _⟩ := I.list e
    have hz' : (listText (PyData.shownAll ds)).length ≤ sizeLine := by simpa only [PyData.shown] using S.len
    have rks := dps_rks I ds _ its r' rvs (by simpa [PyData.showable] using S.ok) fun t ht => Nat.le_trans (listText_mem_le ht) hz'
    obtain ⟨⟨as, ra⟩, bs, m, k⟩ := rks
    have rd : Reads s.heap (.ref a) (.list ds) (a :: as) := .list he hc hd ra
    have out : a ∉ bs := not_mem_of_deeper rd (by simp only [PyData.depth]; omega) m
    have dep : PyData.depthAll ds + 1 ≤ 20 := by simpa only [PyData.depth] using S.dep
    have fin : ∀ h' u tk, (∀ b o, s.heap.get? b = some o → h'.get? b = some o) → L2.EP X pins σ Q (.str (PyData.shown (.list ds)) u) { s with heap := h', toks := tk } := fun h' u tk kp => ⟨.str _, H, I.kept kp, ⟨_, rfl⟩, q⟩
    refine call_repr_slot (by omega) ⟨_, he, hc⟩ PySem.F.slot_list_repr.toG ?_
    cases its with
    | nil =>
      cases ra
      refine call_list_repr_empty ⟨_, he, hc⟩ he hd ⟨_, _, rfl, ?_⟩
      have e0 : PyData.shown (.list []) = ("[]" : Str) := by simp only [PyData.shown, PyData.shownAll, listText_nil]
      rw [← e0]
      exact fin _ _ _ fun _ _ z => z
    | cons x l =>
      refine call_list_reprK he hc hd out (by simpa using k.length_eq) (fun i y e => k.item i y (by simpa using e)) (A := X.A.in1) hg (fun b _ => Clear.nil b) (by show X.A.units + 1 + _ < _; omega) (fun _ _ z => z) (fun h' u tk kp => ⟨_, _, rfl, ?_⟩) hz'
      have e0 : PyData.shown (.list ds) = listText (PyData.shownAll ds) := by simp only [PyData.shown]
      rw [← e0]
      exact fin h' u tk kp
  · obtain ⟨its, rvs, ⟨o, he, hc, n, hd⟩, _⟩ := I.tuple e
    have hz' : (tupleText (PyData.shownAll ds)).length ≤ sizeLine := by simpa only [PyData.shown] using S.len
    have rks := dps_rks I ds _ its r' rvs (by simpa [PyData.showable] using S.ok) fun t ht => Nat.le_trans (tupleText_mem_le ht) hz'
    obtain ⟨⟨as, ra⟩, bs, m, k⟩ := rks
    have rd : Reads s.heap (.ref a) (.tuple ds) as := .tuple he hc hd ra
    have out : a ∉ bs := not_mem_of_deeper rd (by simp only [PyData.depth]; omega) m
    have dep : PyData.depthAll ds + 1 ≤ 20 := by simpa only [PyData.depth] using S.dep
    have fin : ∀ h' u tk, (∀ b o, s.heap.get? b = some o → h'.get? b = some o) → L2.EP X pins σ Q (.str (PyData.shown (.tuple ds)) u) { s with heap := h', toks := tk } := fun h' u tk kp => ⟨.str _, H, I.kept kp, ⟨_, rfl⟩, q⟩
    refine call_repr_slot (by omega) ⟨_, he, hc⟩ PySem.F.slot_tuple_repr ?_
    refine call_tuple_reprK he hc hd out (by simpa using k) (A := X.A.in1) hg (fun b _ => Clear.nil b) (by show X.A.units + 1 + _ < _; omega) (fun _ _ z => z) (fun h' u tk kp => ⟨_, _, rfl, ?_⟩) hz'
    have e0 : PyData.shown (.tuple ds) = tupleText (PyData.shownAll ds) := by simp only [PyData.shown]
    rw [← e0]
    exact fin h' u tk kp
/-! tracked data is data that stands anywhere -/
mutual
theorem dp_of {K : PySem.W.Frag} {H : Hp} : ∀ (d : PyData) (v : V), d.canLay0 = true → DK H v d → Dp K H v d
  | .none, _, _, h => by cases h; exact .non
  | .bool b, _, _, h => by cases h; exact .bl b
  | .int i, _, _, h => by cases h; exact .int i
  | .str x, _, _, h => by cases h; exact .str x
  | .list ds, _, l, h => by
    cases h with
    | lst e r => exact .lst (SqL.of e) (dps_of ds _ (by simpa only [PyData.canLay0] using l) r)
  | .tuple ds, _, l, h => by
    cases h with
    | tup e r => exact .tup (SqT.of e) (dps_of ds _ (by simpa only [PyData.canLay0] using l) r)
  | .dict _, _, l, _ => by simp [PyData.canLay0] at l
theorem dps_of {K : PySem.W.Frag} {H : Hp} : ∀ (ds : List PyData) (vs : List V), PyData.canLayAll0 ds = true → DKs H vs ds → DpAll K H vs ds
  | [], _, _, h => by cases h; exact .nil
  | d :: ds, _, l, h => by
    have l' : d.canLay0 = true ∧ PyData.canLayAll0 ds = true := by simpa [PyData.canLayAll0] using l
    cases h with
    | cons h1 h2 => exact .cons (dp_of d _ l'.1 h1) (dps_of ds _ l'.2 h2)
end
end Mine

set_option Elab.async false
set_option linter.all false
set_option maxRecDepth 100000
set_option maxHeartbeats 4000000
/-! Unlike data have unlike texts (repr). -/
namespace Mine
open PySem PySem.Spec PyProof.Rows L2 TL
/-- data whose text tells it: numbers from 0 on, strings of ASCII's printable signs but ' and the backslash, no dicts -/
def signOk (c : Nat) : Bool := decide (32 ≤ c ∧ c < 127 ∧ c ≠ 39 ∧ c ≠ 92)
mutual
def plainD : PyData → Bool
  | .none | .bool _ => true
  | .int i => decide (0 ≤ i)
  | .str x => x.cps.toList.all signOk
  | .list ds | .tuple ds => plainDs ds
  | .dict _ => false
def plainDs : List PyData → Bool
  | [] => true
  | d :: ds => plainD d && plainDs ds
end
theorem sign_char : ∀ c < 127, signOk c = true → Builtin.Str.reprChar 39 c = [c] := by decide +kernel
theorem repr_fold {x : Str} (q : Nat) : ∀ (l : List Nat) (acc : Array Nat), (∀ c ∈ l, Builtin.Str.reprChar q c = [c]) → (l.foldl (fun out c => out ++ (Builtin.Str.reprChar q c).toArray) acc).toList = acc.toList ++ l
  | [], acc, _ => by simp
  | c :: l, acc, h => by
    rw [List.foldl_cons, h c (List.mem_cons_self ..), repr_fold (x := x) q l _ fun d hd => h d (List.mem_cons_of_mem _ hd)]
    simp
theorem tl_repr {x : Str} (h : x.cps.toList.all signOk = true) : tl (reprText x) = 39 :: (tl x ++ [39]) := by
  have hs : ∀ c ∈ tl x, signOk c = true := List.all_eq_true.mp h
  have no : x.cps.contains 39 = false := by
    cases e : x.cps.contains 39 with
    | false => rfl
    | true =>
      have m : (39 : Nat) ∈ tl x := by simpa using e
      exact absurd (hs 39 m) (by decide)
  have q : reprQuote x = 39 := by
    unfold reprQuote
    rw [no]
    rfl
  have ch : ∀ c ∈ tl x, Builtin.Str.reprChar 39 c = [c] := fun c hc => by
    have := hs c hc
    have l : c < 127 := by
      unfold signOk at this
      simp only [decide_eq_true_eq] at this
      exact this.2.1
    exact sign_char c l this
  unfold reprText
  rw [q]
  show (Array.push _ 39).toList = _
  rw [Array.toList_push, ← Array.foldl_toList, repr_fold (x := x) 39 _ _ ch]
  simp
def comma : List Nat := [44, 32]
theorem tl_comma : tl (Str.ofString ", ") = comma := by decide +kernel
/-- the signs of the text -/
abbrev sg (d : PyData) : List Nat := tl d.shown
theorem all_sg : ∀ ds : List PyData, (PyData.shownAll ds).map tl = ds.map sg
  | [] => by simp [PyData.shownAll]
  | d :: ds => by rw [PyData.shownAll_cons, List.map_cons, List.map_cons, all_sg ds]
theorem sg_list (ds : List PyData) : sg (.list ds) = 91 :: (joinL comma (ds.map sg) ++ [93]) := by
  show tl (PyData.shown _) = _
  have e : PyData.shown (.list ds) = listText (PyData.shownAll ds) := by simp only [PyData.shown]
  have e1 : tl (Str.ofString "[") = [91] := by decide +kernel
  have e2 : tl (Str.ofString "]") = [93] := by decide +kernel
  rw [e, listText_eq_join]
  show tl (Str.ofString "[" ++ Str.join (Str.ofString ", ") (PyData.shownAll ds) ++ Str.ofString "]") = _
  rw [tl_append, tl_append, tl_join, e1, e2, tl_comma, all_sg]
  rfl
def clo (n : Nat) : List Nat := if n = 1 then [44, 41] else [41]
theorem sg_tuple (ds : List PyData) : sg (.tuple ds) = 40 :: (joinL comma (ds.map sg) ++ clo ds.length) := by
  show tl (PyData.shown _) = _
  have e : PyData.shown (.tuple ds) = tupleText (PyData.shownAll ds) := by simp only [PyData.shown]
  have e1 : tl (Str.ofString "(") = [40] := by decide +kernel
  have e2 : ∀ n : Nat, tl (Str.ofString (if (n == 1) = true then ",)" else ")")) = clo n := fun n => by
    unfold clo
    by_cases h : n = 1
    · rw [if_pos (by simpa using h), if_pos h]
      decide +kernel
    · rw [if_neg (by simpa using h), if_neg h]
      decide +kernel
  rw [e]
  show tl (Str.ofString "(" ++ Str.join (Str.ofString ", ") (PyData.shownAll ds) ++ Str.ofString (if ((PyData.shownAll ds).length == 1) = true then ",)" else ")")) = _
  rw [tl_append, tl_append, tl_join, e1, e2, tl_comma, all_sg, PyData.shownAll_length]
  rfl
/-- the kind of data by its first sign -/
def tag (c : Nat) : Nat := if c = 78 then 0 else if c = 84 then 1 else if c = 70 then 2 else if 48 ≤ c ∧ c ≤ 57 then 3 else if c = 39 then 4 else if c = 91 then 5 else if c = 40 then 6 else 9
def kindOf : PyData → Nat
  | .none => 0 | .bool true => 1 | .bool false => 2 | .int _ => 3 | .str _ => 4 | .list _ => 5 | .tuple _ => 6 | .dict _ => 7
theorem sg_int {i : Int} (h : 0 ≤ i) : sg (.int i) = numL i.toNat := by
  have e : i = ((i.toNat : Nat) : Int) := by omega
  show tl (PyData.shown (.int i)) = _
  rw [PyData.shown_int]
  conv => lhs; rw [e]
  exact tl_num _
theorem first {d : PyData} (h : plainD d = true) : ∃ c t, sg d = c :: t ∧ tag c = kindOf d := by
  cases d with
  | none => exact ⟨78, [111, 110, 101], by show tl (PyData.shown _) = _; rw [PyData.shown_none]; decide +kernel, by decide⟩
  | bool b =>
    cases b with
    | true => exact ⟨84, [114, 117, 101], by show tl (PyData.shown _) = _; rw [PyData.shown_bool]; decide +kernel, by decide⟩
    | false => exact ⟨70, [97, 108, 115, 101], by show tl (PyData.shown _) = _; rw [PyData.shown_bool]; decide +kernel, by decide⟩
  | int i =>
    have h0 : 0 ≤ i := by simpa [plainD] using h
    rw [sg_int h0]
    cases e : numL i.toNat with
    | nil => exact absurd e (numL_ne _)
    | cons c t =>
      refine ⟨c, t, rfl, ?_⟩
      have := numL_digits i.toNat c (by rw [e]; exact List.mem_cons_self ..)
      unfold tag
      rw [if_neg (by omega), if_neg (by omega), if_neg (by omega), if_pos (by omega)]
      rfl
  | str x =>
    refine ⟨39, tl x ++ [39], ?_, rfl⟩
    show tl (PyData.shown _) = _
    rw [PyData.shown_str]
    exact tl_repr (by simpa only [plainD] using h)
  | list ds => exact ⟨91, _, sg_list ds, rfl⟩
  | tuple ds => exact ⟨40, _, sg_tuple ds, rfl⟩
  | dict _ => simp [plainD] at h
theorem same_kind {d d' : PyData} (h : plainD d = true) (h' : plainD d' = true) {r r' : List Nat} (e : sg d ++ r = sg d' ++ r') : kindOf d = kindOf d' := by
  obtain ⟨c, t, a, b⟩ := first h
  obtain ⟨c', t', a', b'⟩ := first h'
  rw [a, a'] at e
  injection e with e1 _
  rw [← b, ← b', e1]
/-- what stands behind data -/
def After (r : List Nat) : Prop := ∀ c t, r = c :: t → ¬ (48 ≤ c ∧ c ≤ 57)
def Fin1 (f : List Nat) : Prop := (∃ t, f = 41 :: t) ∨ (∃ t, f = 93 :: t) ∨ ∃ t, f = 44 :: 41 :: t
theorem Fin1.after {f : List Nat} (h : Fin1 f) : After f := by
  rcases h with ⟨t, rfl⟩ | ⟨t, rfl⟩ | ⟨t, rfl⟩ <;> (intro c u e; injection e with e1 _; omega)
theorem comma_after (t : List Nat) : After (comma ++ t) := by
  intro c u e
  injection e with e1 _
  omega
theorem digits_cut {a b : List Nat} : ∀ {r r' : List Nat}, (∀ c ∈ a, 48 ≤ c ∧ c ≤ 57) → (∀ c ∈ b, 48 ≤ c ∧ c ≤ 57) → After r → After r' → a ++ r = b ++ r' → a = b ∧ r = r' := by
  induction a generalizing b with
  | nil =>
    intro r r' ha hb hr hr' e
    cases b with
    | nil => exact ⟨rfl, e⟩
    | cons x b => exact absurd (hb x (List.mem_cons_self ..)) (hr x _ e)
  | cons y a ih =>
    intro r r' ha hb hr hr' e
    cases b with
    | nil => exact absurd (ha y (List.mem_cons_self ..)) (hr' y _ e.symm)
    | cons x b =>
      injection e with e1 e2
      obtain ⟨h1, h2⟩ := ih (fun c hc => ha c (List.mem_cons_of_mem _ hc)) (fun c hc => hb c (List.mem_cons_of_mem _ hc)) hr hr' e2
      exact ⟨by rw [e1, h1], h2⟩
theorem quote_cut {a b r r' : List Nat} (ha : 39 ∉ a) (hb : 39 ∉ b) (e : a ++ 39 :: r = b ++ 39 :: r') : a = b ∧ r = r' := by
  induction a generalizing b with
  | nil =>
    cases b with
    | nil => exact ⟨rfl, (List.cons.inj e).2⟩
    | cons x b => exact absurd (by rw [← (List.cons.inj e).1]; exact List.mem_cons_self ..) hb
  | cons y a ih =>
    cases b with
    | nil => exact absurd (by rw [(List.cons.inj e).1]; exact List.mem_cons_self ..) ha
    | cons x b =>
      injection e with e1 e2
      obtain ⟨h1, h2⟩ := ih (fun z => ha (List.mem_cons_of_mem _ z)) (fun z => hb (List.mem_cons_of_mem _ z)) e2
      exact ⟨by rw [e1, h1], h2⟩
theorem no39 {x : Str} (h : x.cps.toList.all signOk = true) : 39 ∉ tl x := fun m => absurd (List.all_eq_true.mp h 39 m) (by decide)
theorem clo_fin (n : Nat) (r : List Nat) : Fin1 (clo n ++ r) := by
  unfold clo
  by_cases h : n = 1
  · rw [if_pos h]; exact .inr (.inr ⟨r, rfl⟩)
  · rw [if_neg h]; exact .inl ⟨r, rfl⟩
theorem kind_le : ∀ d : PyData, kindOf d ≤ 7
  | .none => by decide
  | .bool true => by decide
  | .bool false => by decide
  | .int _ => by show 3 ≤ 7; decide
  | .str _ => by show 4 ≤ 7; decide
  | .list _ => by show 5 ≤ 7; decide
  | .tuple _ => by show 6 ≤ 7; decide
  | .dict _ => by show 7 ≤ 7; decide
theorem fin_no {f : List Nat} (h : Fin1 f) {d : PyData} (hd : plainD d = true) {t : List Nat} (e : f = sg d ++ t) : False := by
  obtain ⟨c, u, a, b⟩ := first hd
  rw [a] at e
  have k := kind_le d
  have t1 : tag 41 = 9 := by decide
  have t2 : tag 93 = 9 := by decide
  have t3 : tag 44 = 9 := by decide
  rcases h with ⟨t', rfl⟩ | ⟨t', rfl⟩ | ⟨t', rfl⟩
  all_goals
    injection e with e1 _
    rw [← e1] at b
    omega
mutual
theorem sg_cut : ∀ (d d' : PyData) (r r' : List Nat), plainD d = true → plainD d' = true → After r → After r' → sg d ++ r = sg d' ++ r' → d = d' ∧ r = r'
  | .none, d', r, r', h, h', _, _, e => by
    have k := same_kind h h' e
    cases d' with
    | none => exact ⟨rfl, List.append_cancel_left e⟩
    | bool b => cases b <;> cases k
    | _ => cases k
  | .bool true, d', r, r', h, h', _, _, e => by
    have k := same_kind h h' e
    cases d' with
    | bool b =>
      cases b with
      | true => exact ⟨rfl, List.append_cancel_left e⟩
      | false => cases k
    | _ => cases k
  | .bool false, d', r, r', h, h', _, _, e => by
    have k := same_kind h h' e
    cases d' with
    | bool b =>
      cases b with
      | true => cases k
      | false => exact ⟨rfl, List.append_cancel_left e⟩
    | _ => cases k
  | .int i, d', r, r', h, h', hr, hr', e => by
    have k := same_kind h h' e
    cases d' with
    | int j =>
      have h0 : 0 ≤ i := by simpa [plainD] using h
      have h1 : 0 ≤ j := by simpa [plainD] using h'
      rw [sg_int h0, sg_int h1] at e
      obtain ⟨a, b⟩ := digits_cut (numL_digits _) (numL_digits _) hr hr' e
      have := numL_inj a
      exact ⟨by congr 1; omega, b⟩
    | bool b => cases b <;> cases k
    | _ => cases k
  | .str x, d', r, r', h, h', _, _, e => by
    have k := same_kind h h' e
    cases d' with
    | str y =>
      have h0 : x.cps.toList.all signOk = true := by simpa only [plainD] using h
      have h1 : y.cps.toList.all signOk = true := by simpa only [plainD] using h'
      have e' : tl (reprText x) ++ r = tl (reprText y) ++ r' := by rw [← PyData.shown_str, ← PyData.shown_str]; exact e
      rw [tl_repr h0, tl_repr h1] at e'
      injection e' with _ e2
      rw [List.append_eq, List.append_eq, List.append_assoc, List.append_assoc] at e2
      obtain ⟨a, b⟩ := quote_cut (no39 h0) (no39 h1) e2
      exact ⟨by rw [ext_tl a], b⟩
    | bool b => cases b <;> cases k
    | _ => cases k
  | .list ds, d', r, r', h, h', hr, hr', e => by
    have k := same_kind h h' e
    cases d' with
    | list ds' =>
      have h0 : plainDs ds = true := by simpa only [plainD] using h
      have h1 : plainDs ds' = true := by simpa only [plainD] using h'
      rw [sg_list, sg_list] at e
      injection e with _ e2
      rw [List.append_eq, List.append_eq, List.append_assoc, List.append_assoc] at e2
      obtain ⟨a, b⟩ := sgs_cut ds ds' _ _ h0 h1 (.inr (.inl ⟨r, rfl⟩)) (.inr (.inl ⟨r', rfl⟩)) e2
      exact ⟨by rw [a], (List.cons.inj b).2⟩
    | bool b => cases b <;> cases k
    | _ => cases k
  | .tuple ds, d', r, r', h, h', hr, hr', e => by
    have k := same_kind h h' e
    cases d' with
    | tuple ds' =>
      have h0 : plainDs ds = true := by simpa only [plainD] using h
      have h1 : plainDs ds' = true := by simpa only [plainD] using h'
      rw [sg_tuple, sg_tuple] at e
      injection e with _ e2
      rw [List.append_eq, List.append_eq, List.append_assoc, List.append_assoc] at e2
      obtain ⟨a, b⟩ := sgs_cut ds ds' _ _ h0 h1 (clo_fin _ r) (clo_fin _ r') e2
      subst a
      exact ⟨rfl, List.append_cancel_left b⟩
    | bool b => cases b <;> cases k
    | _ => cases k
  | .dict _, _, _, _, h, _, _, _, _ => by simp [plainD] at h
theorem sgs_cut : ∀ (ds ds' : List PyData) (f f' : List Nat), plainDs ds = true → plainDs ds' = true → Fin1 f → Fin1 f' → joinL comma (ds.map sg) ++ f = joinL comma (ds'.map sg) ++ f' → ds = ds' ∧ f = f'
  | [], [], _, _, _, _, _, _, e => ⟨rfl, e⟩
  | [], [d'], f, f', _, h', hf, _, e => by
    have h1 : plainD d' = true := by simpa [plainDs] using h'
    exact (fin_no hf h1 (t := f') e).elim
  | [], d' :: e' :: ds', f, f', _, h', hf, _, e => by
    have h1 : plainD d' = true ∧ plainD e' = true ∧ plainDs ds' = true := by simpa [plainDs] using h'
    exact (fin_no hf h1.1 (t := comma ++ joinL comma ((e' :: ds').map sg) ++ f') (by
      have : f = sg d' ++ (comma ++ joinL comma ((e' :: ds').map sg)) ++ f' := e
      rw [this, List.append_assoc])).elim
  | [d], [], f, f', h, _, _, hf', e => by
    have h1 : plainD d = true := by simpa [plainDs] using h
    exact (fin_no hf' h1 (t := f) e.symm).elim
  | d :: e' :: ds, [], f, f', h, _, _, hf', e => by
    have h1 : plainD d = true ∧ plainD e' = true ∧ plainDs ds = true := by simpa [plainDs] using h
    exact (fin_no hf' h1.1 (t := comma ++ joinL comma ((e' :: ds).map sg) ++ f) (by
      have : sg d ++ (comma ++ joinL comma ((e' :: ds).map sg)) ++ f = f' := e
      rw [← this, List.append_assoc])).elim
  | [d], [d'], f, f', h, h', hf, hf', e => by
    have h0 : plainD d = true := by simpa [plainDs] using h
    have h1 : plainD d' = true := by simpa [plainDs] using h'
    obtain ⟨a, b⟩ := sg_cut d d' f f' h0 h1 hf.after hf'.after e
    exact ⟨by rw [a], b⟩
  | [d], d' :: e' :: ds', f, f', h, h', hf, hf', e => by
    have h0 : plainD d = true := by simpa [plainDs] using h
    have h1 : plainD d' = true ∧ plainD e' = true ∧ plainDs ds' = true := by simpa [plainDs] using h'
    have e1 : sg d ++ f = sg d' ++ (comma ++ (joinL comma ((e' :: ds').map sg) ++ f')) := by
      have : sg d ++ f = sg d' ++ (comma ++ joinL comma ((e' :: ds').map sg)) ++ f' := e
      rw [this, List.append_assoc, List.append_assoc]
    obtain ⟨_, b⟩ := sg_cut d d' f _ h0 h1.1 hf.after (comma_after _) e1
    rcases hf with ⟨t, rfl⟩ | ⟨t, rfl⟩ | ⟨t, rfl⟩
    · injection b with b1 _; cases b1
    · injection b with b1 _; cases b1
    · injection b with _ b2; injection b2 with b3 _; cases b3
  | d :: e' :: ds, [d'], f, f', h, h', hf, hf', e => by
    have h0 : plainD d = true ∧ plainD e' = true ∧ plainDs ds = true := by simpa [plainDs] using h
    have h1 : plainD d' = true := by simpa [plainDs] using h'
    have e1 : sg d ++ (comma ++ (joinL comma ((e' :: ds).map sg) ++ f)) = sg d' ++ f' := by
      have : sg d ++ (comma ++ joinL comma ((e' :: ds).map sg)) ++ f = sg d' ++ f' := e
      rw [← this, List.append_assoc, List.append_assoc]
    obtain ⟨_, b⟩ := sg_cut d d' _ f' h0.1 h1 (comma_after _) hf'.after e1
    rcases hf' with ⟨t, rfl⟩ | ⟨t, rfl⟩ | ⟨t, rfl⟩
    · injection b with b1 _; cases b1
    · injection b with b1 _; cases b1
    · injection b with _ b2; injection b2 with b3 _; cases b3
  | d :: e1 :: ds, d' :: e2 :: ds', f, f', h, h', hf, hf', e => by
    have h0 : plainD d = true ∧ plainDs (e1 :: ds) = true := by simpa [plainDs] using h
    have h1 : plainD d' = true ∧ plainDs (e2 :: ds') = true := by simpa [plainDs] using h'
    have e3 : sg d ++ (comma ++ (joinL comma ((e1 :: ds).map sg) ++ f)) = sg d' ++ (comma ++ (joinL comma ((e2 :: ds').map sg) ++ f')) := by
      have : sg d ++ (comma ++ joinL comma ((e1 :: ds).map sg)) ++ f = sg d' ++ (comma ++ joinL comma ((e2 :: ds').map sg)) ++ f' := e
      rw [List.append_assoc, List.append_assoc, List.append_assoc, List.append_assoc] at this
      exact this
    obtain ⟨a, b⟩ := sg_cut d d' _ _ h0.1 h1.1 (comma_after _) (comma_after _) e3
    obtain ⟨a2, b2⟩ := sgs_cut (e1 :: ds) (e2 :: ds') f f' h0.2 h1.2 hf hf' (List.append_cancel_left b)
    exact ⟨by rw [a, a2], b2⟩
end
theorem shown_inj {d d' : PyData} (h : plainD d = true) (h' : plainD d' = true) (e : d.shown = d'.shown) : d = d' :=
  (sg_cut d d' [] [] h h' (fun _ _ z => nomatch z) (fun _ _ z => nomatch z) (by rw [List.append_nil, List.append_nil]; exact congrArg tl e)).1
end Mine

set_option Elab.async false
set_option linter.all false
set_option maxRecDepth 100000
set_option maxHeartbeats 4000000
/-! A written tuple as a plain one. -/
namespace Mine
open PySem PySem.Spec PyProof.Rows L2
section
variable {X : Cx} {es : List Expr} {t : L2.TA} {pos : Pos}
def tTupF (t : L2.TA) : L2.TE := fun σ H Q => t σ H fun xs H1 => xs.length ≤ sizeLine ∧ ∀ p o, H1 p = none → o.dict = none → Q (.ref p) (upd H1 p (.frz o (.tup xs)))
theorem pe_tupF {x1} (h : L2.PA X es t) : L2.PE X (.Tuple es x1 pos) (tTupF t) := by
  refine ⟨fun pins s σ H Q I hq => ?_⟩
  refine wpAny_Tuple_spliced (thn (h.run pos pins s σ H _ I hq) fun us s1 ⟨xs, H1, I1, r, z, q⟩ => ⟨by rw [← r.length]; exact z, ?_⟩)
  have hf : H1 s1.heap.objs.size = none := I1.hok.fresh (Nat.le_refl _)
  refine ⟨.ref s1.heap.objs.size, upd H1 s1.heap.objs.size (.frz { cls := .type "tuple", data := .seq us.toArray } (.tup xs)), I1.laid (t' := s1.toks) (fun b u e => Heap.get?_push_of_some _ e) (Nat.le_refl _) ?_, rfl, q _ _ hf rfl⟩
  exact ⟨Heap.get?_push_size _ rfl, z, us, r, ⟨_, Heap.get?_push_size _ rfl, rfl, _, rfl⟩⟩
end
end Mine

set_option Elab.async false
set_option linter.all false
set_option maxRecDepth 100000
set_option maxHeartbeats 4000000
/-! Sets of texts that can be walked: made by a comprehension, sorted. -/
namespace Mine
open PySem PySem.Spec PyProof.Rows L2 PySem.Froz
/-- the set at a has just the texts l, each once -/
def SetS (P : Program) (w : World) (h : Heap) (a : Addr) (l : List Str) : Prop :=
  ∃ D : SD, h.get? a = some (sObj "set" D) ∧ TxOk P w D l ∧ l.Nodup ∧ l.length < scanBound ∧ Ris D.2.2.place.toList ∧ (w.params.followText "set-order" = true ∨ D.2.2.led = true)
section
variable {P : Program} {w : World} {A : Around} {E : Value → Shared → Prop} {s : Shared} {h h' : Heap} {a : Addr} {l : List Str}
theorem SetS.at' (R : SetS P w h a l) (k : ∀ o, h.get? a = some o → h'.get? a = some o) : SetS P w h' a l :=
  let ⟨D, e, r⟩ := R
  ⟨D, k _ e, r⟩
theorem setS_new (w : World) (h : Heap) : SetS P w (h.push { cls := .type "set", dict := none, data := .set #[] 0 (.fresh 0 0 (!w.params.followText "set-order")) }) h.objs.size [] := by
  refine ⟨(#[], 0, .fresh 0 0 (!w.params.followText "set-order")), Heap.get?_push_size _ rfl, TxOk.nil (by rfl), List.nodup_nil, by decide, List.Pairwise.nil, ?_⟩
  show _ ∨ (!w.params.followText "set-order") = true
  cases w.params.followText "set-order"
  · exact .inr rfl
  · exact .inl rfl
theorem tailTx_ris {ep : Nat} {es : Array (Int × Value)} {t : SetTable} {b : Bool} (r : Ris t.place.toList) : Ris (tailTx ep es t b).2.2.place.toList := by
  unfold tailTx
  by_cases c : (!b && t.tooFull) = true
  · rw [if_pos c]
    exact relayAll_ris _ _ _
  · rw [if_neg c]
    exact r
theorem tailTx_led {ep : Nat} {es : Array (Int × Value)} {t : SetTable} {b : Bool} : (tailTx ep es t b).2.2.led = t.led := by
  unfold tailTx
  by_cases c : (!b && t.tooFull) = true
  · rw [if_pos c]
    exact relayAll_led _ _ _
  · rw [if_neg c]
theorem addTx_ris {hs : Int} {v : Value} {D : SD} (r : Ris D.2.2.place.toList) : Ris (addTx hs v D).2.2.place.toList := by
  refine tailTx_ris ?_
  have r1 := layNew_ris D.2.2 D.1 hs v r
  by_cases c : (layNew D.2.2 D.1 hs v).2.1.plain = true
  · rw [if_pos c]
    exact r1
  · rw [if_neg c]
    exact r1
theorem addTx_led {hs : Int} {v : Value} {D : SD} : (addTx hs v D).2.2.led = D.2.2.led := by
  refine tailTx_led.trans ?_
  have r1 := layNew_led D.2.2 D.1 hs v
  by_cases c : (layNew D.2.2 D.1 hs v).2.1.plain = true
  · rw [if_pos c]
    exact r1
  · rw [if_neg c]
    exact r1
/-- one text more -/
def insS (l : List Str) (k : Str) : List Str := if k ∈ l then l else k :: l
theorem mem_insS {l : List Str} {k x : Str} : x ∈ insS l k ↔ x = k ∨ x ∈ l := by
  unfold insS
  by_cases h : k ∈ l
  · rw [if_pos h]
    exact ⟨.inr, fun z => z.elim (fun e => e ▸ h) id⟩
  · rw [if_neg h]
    exact List.mem_cons
theorem insS_len {l : List Str} {k : Str} : (insS l k).length ≤ l.length + 1 := by
  unfold insS
  split <;> simp
theorem addHashed_S {k : Str} {u : PySem.Tok} {Q : Bool → Shared → Prop} (R : SetS P w s.heap a l) (room : l.length + 1 < scanBound)
    (q : ∀ b hp, (∀ c o, c ≠ a → s.heap.get? c = some o → hp.get? c = some o) → SetS P w hp a (insS l k) → Q b { s with heap := hp }) : wpAny (model P w) A (setAddHashed a (.str k u) (hashStr w k)) Q E s := by
  obtain ⟨D, ho, F, nd, lb, ri, le⟩ := R
  by_cases m : k ∈ l
  · obtain ⟨es, ep, t⟩ := D
    have hd : (sObj "set" (es, ep, t)).data = .set es ep t := rfl
    have fit : t.fits es.size = true := F.fit
    have els : ElemsOf (strKind P w) es.toList := F.el
    have small : es.size < scanBound := by
      have z : es.size = l.length := F.sz
      omega
    have key : (strKind P w).is k (.str k u) = true := is_str k u
    have e1 : insS l k = l := if_pos m
    rw [e1] at q
    unfold setAddHashed setAddHashedIn
    refine wpAny_holding (wpAny_bind (wpAny_setState_of ho hd fit ?_))
    dsimp only
    rw [byScan_of rfl small els]
    simp only [↓reduceIte]
    unfold setAddByScan
    refine wpAny_bind ?_
    refine wpAny_bind (wpAny_rule ?_)
    refine wpAny_bind (wpAny_setScan_of (knd := strKind P w) (k := k) key ho hd fit els ?_)
    cases fx : List.findIdx? (fun z => (strKind P w).is k z.2) es.toList with
    | none =>
      obtain ⟨z, hz, hk⟩ := (F.mem k).mp m
      have := List.findIdx?_eq_none_iff.mp fx z hz
      rw [hk] at this
      cases this
    | some j =>
      dsimp only
      exact wpAny_pure (wpAny_pure (q _ s.heap (fun _ _ _ e => e) ⟨(es, ep, t), ho, F, nd, lb, ri, le⟩))
  · refine add_x ho F m room (q true _ (fun c o hc e => (Heap.get?_update_other _ _ (Ne.symm hc)).trans e) ⟨addTx (hashStr w k) (.str k u) D, get_upd _ ho rfl, ?_, ?_, ?_, addTx_ris ri, ?_⟩)
    · unfold insS
      rw [if_neg m]
      exact add_ok u F
    · unfold insS
      rw [if_neg m]
      exact List.nodup_cons.mpr ⟨m, nd⟩
    · unfold insS
      rw [if_neg m]
      exact room
    · rw [addTx_led]
      exact le
theorem call_addS {k : Str} {u : PySem.Tok} {Q : Value → Shared → Prop} (R : SetS P w s.heap a l) (room : l.length + 1 < scanBound)
    (q : ∀ hp tk, (∀ c o, c ≠ a → s.heap.get? c = some o → hp.get? c = some o) → SetS P w hp a (insS l k) → Q .none { s with heap := hp, toks := tk }) : wpAny (model P w) A (call (.builtin "set.add") [.ref a, .str k u]) Q E s := by
  obtain ⟨D, ho, r⟩ := id R
  refine wpAny_call_entry PySem.F.slot_set_add ⟨_, ho, rfl⟩ PySem.F.entry_set_add ?_ (PySem.F.args_set_add_2 _ _)
  unfold Builtin.«set.add» Builtin.Frozenset.oneOther
  simp only [List.isEmpty_nil, bind_assoc]
  unfold Builtin.Frozenset.addrOf setAdd
  refine wpAny_bind (wpAny_pure ?_)
  try dsimp only
  refine wpAny_bind (wpAny_pure ?_)
  try dsimp only
  refine wpAny_bind (wpAny_holding (wpAny_bind ((strKind P w).pyHash (is_str k u) ?_)))
  refine addHashed_S (s := { s with toks := s.toks + 1 }) R room fun b hp keep R' => ?_
  show wpAny _ _ (ret Value.none) _ _ _
  exact wpAny_pure ⟨_, rfl, q hp _ keep R'⟩
end
/-- .. as a tracked thing -/
def SetSO (P : Program) (w : World) (a : Addr) (l : List Str) : HO := .ext fun h => SetS P w h a l
theorem setSO_ok {P : Program} {w : World} {H : Hp} {h : Heap} {a : Addr} {l : List Str} (R : SetS P w h a l) : ObjOk P w H h a (SetSO P w a l) := by
  obtain ⟨D, ho, _⟩ := id R
  exact ⟨R, ⟨_, ho⟩, fun h1 h2 z k => SetS.at' z k⟩
section
variable {X : Cx}
theorem setSO_at {pins : List (Addr × Obj)} {σ : L2.St} {H : Hp} {s : Shared} {a : Addr} {l : List Str} (I : L2.Inv X pins σ H s) (e : H a = some (SetSO X.prog X.w a l)) : SetS X.prog X.w s.heap a l := (I.hok a _ e).1
/-- a text put into a tracked set -/
theorem addSO {pins : List (Addr × Obj)} {σ : L2.St} {H : Hp} {s : Shared} {E : Value → Shared → Prop} {a : Addr} {l : List Str} {k : Str} {u : PySem.Tok} {Q : Value → Shared → Prop} (I : L2.Inv X pins σ H s) (e : H a = some (SetSO X.prog X.w a l)) (room : l.length + 1 < scanBound)
    (q : ∀ s', L2.Inv X pins σ (upd H a (SetSO X.prog X.w a (insS l k))) s' → Q .none s') : wpAny (model X.prog X.w) X.A (call (.builtin "set.add") [.ref a, .str k u]) Q E s := by
  refine call_addS (setSO_at I e) room fun hp tk keep R' => q _ ?_
  obtain ⟨D, ho, _⟩ := id R'
  exact I.write (e := a) (t' := tk) (by rw [e]; trivial) (.inl rfl) (fun c o hc hu => keep c o hc hu) ⟨_, ho⟩ (setSO_ok R')
/-- {elt for target in iter if ..}, texts: D is the new set -/
def tScS (P : Program) (w : World) (wi : TI) (g : TG) (tt : TT) (te : L2.TE) (vs : List Nat) : L2.TE := fun σ H Q => wi σ H fun J H1 => ∀ D, H1 D = none → ∃ W : Nat → Nat → Hp → Prop, (∃ m, W 0 m (upd H1 D (SetSO P w D []))) ∧ ∀ i m H, W i m H →
  (J.stop i H ∧ Q (.ref D) H) ∨ (J.go i H ∧ ∃ N : Hp → Prop, (∀ H', N H' → ∃ m', m' < m ∧ W (i + 1) m' H') ∧ ∀ x H', J.yld i H x H' → g x (wipe σ vs) H' fun σ2 H2 => wipe σ2 vs = wipe σ vs ∧ tt σ2 H2 fun b H3 =>
    if b = true then te σ2 H3 fun y H4 => ∃ (k : Str) (l : List Str), y = .str k ∧ H4 D = some (SetSO P w D l) ∧ l.length + 1 < scanBound ∧ N (upd H4 D (SetSO P w D (insS l k))) else N H3)
theorem pe_scS {elt tg iter : Expr} {ifs : List Expr} {scope : Scope} {own : List (PySem.Str × Nat)} {pos : Pos} {wi : TI} {g : TG} {tt : TT} {te : L2.TE} (hc : X.calm = true) (hN : X.N.Nodup) (hi : PI X tg iter wi) (ok : BlkOk X.N X.env.scope scope own)
    (hg : ∀ (s : Shared) (H : Hp) (C : Addr) (cl : List (PySem.Str × Addr)) (fp : List Addr), PG (X.blk s H scope (compEnvC scope cl C X.env) fp) tg g) (ht : ∀ (s : Shared) (H : Hp) (C : Addr) (cl : List (PySem.Str × Addr)) (fp : List Addr), PTs (X.blk s H scope (compEnvC scope cl C X.env) fp) ifs tt)
    (he : ∀ (s : Shared) (H : Hp) (C : Addr) (cl : List (PySem.Str × Addr)) (fp : List Addr), L2.PE (X.blk s H scope (compEnvC scope cl C X.env) fp) elt te) (hs : ∀ x, foldedSetIterable iter X.env x = pure x := by intro _; rfl) :
    L2.PE X (.SetComp elt [⟨tg, iter, ifs, 0⟩] scope pos) (tScS X.prog X.w wi g tt te (own.map (·.2))) := by
  refine ⟨fun pins s σ H Q I h => ?_⟩
  rw [PpSet.eval_SetComp]
  have fr : ∀ y ∈ scope.names, y.2 = .free → ∃ c, X.env.cells.lookup y.1 = some c := fun y hy e => (ok.free y hy e).elim (fun z => I.ok.has _ (.inl z)) fun z => I.ok.has _ (.inr z)
  refine wpAny_comprehension_free (use := none) rfl hs (closure_ok fr) ok.kind (fun y hy e => by rw [ok.uniq y hy, e]) (thn (hi.run pins s σ H _ I h) fun xv sa hx => thn hx fun iv sb hb => ?_)
  obtain ⟨it, fp, tn, J, Hb, e0, Ib, T, stb, fb, q⟩ := hb
  subst e0
  refine PpSet.newSet_ok (newEnv_comp ?_)
  generalize hD : sb.heap.objs.size = D
  have nD : Hb D = none := Ib.hok.fresh (Nat.le_of_eq hD)
  obtain ⟨W, ⟨m0, wz⟩, turn⟩ := q D nD
  generalize hsc : ({ sb with heap := sb.heap.push { cls := .type "set", dict := none, data := .set #[] 0 (.fresh 0 0 (!X.w.params.followText "set-order")) } } : Shared) = sc
  have hpc : sc.heap = sb.heap.push { cls := .type "set", dict := none, data := .set #[] 0 (.fresh 0 0 (!X.w.params.followText "set-order")) } := by rw [← hsc]
  have Ic : L2.Inv X pins σ (upd Hb D (SetSO X.prog X.w D [])) sc := by
    rw [← hsc]
    refine Ib.laid (t' := sb.toks) (fun b o e => Heap.get?_push_of_some _ e) (Nat.le_of_eq hD) ?_
    rw [← hD]
    exact setSO_ok (setS_new X.w sb.heap)
  have low : ∀ b ∈ fp, b < sb.heap.objs.size := fun b hb => let ⟨o, e, _⟩ := T.obj _ _ stb b hb; Heap.lt_size e
  have fc : ∀ b ∈ fp, FpOk X pins (upd Hb D (SetSO X.prog X.w D [])) b ∧ b < sc.heap.objs.size := fun b hb => by
    have lt := low b hb
    refine ⟨⟨?_, (fb b hb).2⟩, by rw [hpc, Heap.size_push]; exact Nat.lt_succ_of_lt lt⟩
    rw [upd_ne (by rw [← hD]; exact Nat.ne_of_lt lt)]
    exact (fb b hb).1
  have stc : tn 0 sc.heap := T.keep _ _ _ stb fun b _ o e => by rw [hpc]; exact Heap.get?_push_of_some _ e
  have Id := block_start Ic ok hN fc
  have rg := hg sc (upd Hb D (SetSO X.prog X.w D [])) sc.heap.objs.size (cellsFrom (sc.heap.objs.size + 1) scope.names (cloFrom X.env.cells scope.names [])) fp
  have rt := ht sc (upd Hb D (SetSO X.prog X.w D [])) sc.heap.objs.size (cellsFrom (sc.heap.objs.size + 1) scope.names (cloFrom X.env.cells scope.names [])) fp
  have re := he sc (upd Hb D (SetSO X.prog X.w D [])) sc.heap.objs.size (cellsFrom (sc.heap.objs.size + 1) scope.names (cloFrom X.env.cells scope.names [])) fp
  show codeAny _ _ (.compStart (.SetComp elt [⟨tg, iter, ifs, 0⟩] scope pos) 0 (.ref it) (.ref D) (compEnvC scope (cellsFrom (sc.heap.objs.size + 1) scope.names (cloFrom X.env.cells scope.names [])) sc.heap.objs.size X.env)) (compPost (model X.prog X.w) X.A X.xe none _ (.ref D) sc.heap.objs.size) { sc with heap := pushCells (sc.heap.push { cls := .type "dict", data := .dict #[] }) scope.names }
  have zfp : ∀ b ∈ fp, (upd Hb D (SetSO X.prog X.w D [])) b = none := fun b hb => (fc b hb).1.1
  generalize hce : compEnvC scope (cellsFrom (sc.heap.objs.size + 1) scope.names (cloFrom X.env.cells scope.names [])) sc.heap.objs.size X.env = ce at Id rg rt re ⊢
  have locs : ce.locals = sc.heap.objs.size := by subst hce; rfl
  generalize hHc : upd Hb D (SetSO X.prog X.w D []) = Hc at Ic Id rg rt re wz zfp fc
  generalize hsd : ({ sc with heap := pushCells (sc.heap.push { cls := .type "dict", data := .dict #[] }) scope.names } : Shared) = sd at Id ⊢
  have std : tn 0 sd.heap := T.keep _ _ _ stc fun b _ o e => by rw [← hsd]; exact pushCells_keeps _ _ _ _ (Heap.get?_push_of_some _ e)
  have okfp : ∀ {σ' : L2.St} {H' : Hp} {s' : Shared}, L2.Inv (X.blk sc Hc scope ce fp) [] σ' H' s' → (∀ b ∈ fp, H' b = none) → ∀ b ∈ fp, FpOk (X.blk sc Hc scope ce fp) [] H' b := fun {σ' H' s'} I' z b hb =>
    ⟨z b hb, (I'.ok.exf b hb).1, I'.ok.exfs b hb, .inl hb, fun x c e => (I'.ok.exf b hb).2 x c e, fun p hp => (List.not_mem_nil hp).elim⟩
  have loop : codeAny (model X.prog X.w) X.A (.compLoop (.SetComp elt [⟨tg, iter, ifs, 0⟩] scope pos) 0 (.ref it) (.ref D) ce) (compPost (model X.prog X.w) X.A X.xe none (L2.EP X pins σ Q) (.ref D) sc.heap.objs.size) sd := by
    refine PpSet.compLoopS_any (fun n s' => ∃ i H', L2.Inv (X.blk sc Hc scope ce fp) [] (wipe σ (own.map (·.2))) H' s' ∧ tn i s'.heap ∧ (∀ b ∈ fp, H' b = none) ∧ W i n H') ?_ m0 ⟨0, Hc, Id, std, zfp, wz⟩
    rintro n s1 ⟨i, H1, I1, st1, z1, w1⟩
    rcases turn i n H1 w1 with ⟨over, fin⟩ | ⟨go, N, hN', step⟩
    · refine thnF (T.done (X.blk sc Hc scope ce fp) rfl rfl rfl hc i [] s1 _ H1 (fun _ _ => False) I1 (okfp I1 z1) st1 over) fun r s2 ⟨hr, I2⟩ => ?_
      subst hr
      have I3 : L2.Inv X pins σ H1 s2 := Ic.call' (ch := fp) I2.os I2.base I2.hok I2.bare fun b hb => ⟨(fc b hb).1.2.2.2.1, (fc b hb).1.2.1, (fc b hb).1.2.2.2.2.1, (fc b hb).1.2.2.2.2.2⟩
      have nl : H1 sc.heap.objs.size = none := locs ▸ (show H1 ce.locals = none from I2.free)
      obtain ⟨m, ns, _⟩ := I2.loc
      have ns : s2.heap.Ns ce.locals m := ns
      rw [locs] at ns
      obtain ⟨f0, f1, f2, f3, f4, f5⟩ := Ic.fpOk (Nat.le_refl _) nl
      exact ⟨m, ns, fun h2 sb2 => ⟨.ref D, H1, I3.turned (t' := s2.toks) (fun b o hb e => (sb2.2 b hb).trans e) f0 f1 f3 f4 f5, rfl, fin⟩⟩
    · refine thnF (T.item (X.blk sc Hc scope ce fp) rfl rfl rfl hc i [] s1 _ H1 (fun _ _ => False) I1 (okfp I1 z1) st1 go) fun r s2 ⟨u, hr, hu⟩ => ?_
      subst hr
      refine thnF hu fun _ s3 ⟨x, H3, I3, r3, y3, st3, z3⟩ => ?_
      refine thnF (rg.run _ s3 _ H3 x u _ (I3.pinned (okfp I3 z3) (T.obj _ _ st3)) r3 (step x H3 y3)) fun _ s4 ⟨σ4, H4, I4, wp4, q4⟩ => ?_
      refine thnF (rt.run _ s4 σ4 H4 _ I4 q4) fun b s5 ⟨H5, I5, q5⟩ => ?_
      have back : ∀ {s' : Shared} {H' : Hp}, L2.Inv (X.blk sc Hc scope ce fp) ([] ++ pinsAt fp s3.heap) σ4 H' s' → N H' → ∃ m, m < n ∧ ∃ i H', L2.Inv (X.blk sc Hc scope ce fp) [] (wipe σ (own.map (·.2))) H' s' ∧ tn i s'.heap ∧ (∀ b ∈ fp, H' b = none) ∧ W i m H' := fun {s' H'} I' z => by
        obtain ⟨m', lt, w'⟩ := hN' H' z
        have same : ∀ b ∈ fp, ∀ o, s3.heap.get? b = some o → s'.heap.get? b = some o ∧ H' b = none := fun b hb o e =>
          ⟨(I'.pin (b, o) (List.mem_append_right _ (List.mem_append_right _ (mem_pinsAt hb e)))).1, (I'.pin (b, o) (List.mem_append_right _ (List.mem_append_right _ (mem_pinsAt hb e)))).2.1⟩
        refine ⟨m', lt, i + 1, H', (I'.unpinned (pins := [])).weak (by rw [← wp4, wipe_length]) (fun j v e => ?_), T.keep _ _ _ st3 fun b hb o e => (same b hb o e).1, fun b hb => ?_, w'⟩
        · rw [← wp4] at e
          exact (wipe_some e).1
        · obtain ⟨o, e, _⟩ := T.obj _ _ st3 b hb
          exact (same b hb o e).2
      cases b with
      | false =>
        simp only [Bool.false_eq_true, if_false] at q5 ⊢
        exact back I5 q5
      | true =>
        simp only [if_true] at q5 ⊢
        refine thnF (re.run _ s5 σ4 H5 _ I5 q5) fun z s6 ⟨y, H6, I6, r6, k, l, ey, e6, room, nx⟩ => ?_
        subst ey
        obtain ⟨t6, rfl⟩ := r6
        exact addSO (X := X.blk sc Hc scope ce fp) I6 e6 room fun s7 I7 => back I7 nx
  exact PpSet.codeAny_compStart_set loop (T.self X.A 0 _ _ _ std loop)
end
end Mine

set_option Elab.async false
set_option linter.all false
set_option maxRecDepth 100000
set_option maxHeartbeats 4000000
/-! A set of texts sorted; a comprehension over a list. -/
namespace Mine
open PySem PySem.Spec PyProof.Rows L2 PySem.Froz
theorem perm_of_sub {α : Type} [DecidableEq α] : ∀ {l m : List α}, l.Nodup → (∀ x ∈ l, x ∈ m) → m.length ≤ l.length → l.Perm m
  | [], m, _, _, h => by
    have : m = [] := List.length_eq_zero_iff.mp (Nat.le_zero.mp h)
    rw [this]
  | x :: l, m, nd, sub, h => by
    obtain ⟨hx, nd'⟩ := List.nodup_cons.mp nd
    have xm := sub x (List.mem_cons_self ..)
    have p := List.perm_cons_erase xm
    refine List.Perm.trans (List.Perm.cons x (perm_of_sub nd' (fun y hy => ?_) ?_)) p.symm
    · have : y ∈ x :: m.erase x := p.mem_iff.mp (sub y (List.mem_cons_of_mem _ hy))
      rcases List.mem_cons.mp this with rfl | z
      · exact absurd hy hx
      · exact z
    · have := p.length_eq
      rw [List.length_cons] at this h
      omega
theorem strs_of : ∀ (vs : List Value), (∀ v ∈ vs, ∃ k t, v = Value.str k t) → ∃ ss, StrsAre vs ss ∧ ∀ k, k ∈ ss ↔ ∃ t, Value.str k t ∈ vs
  | [], _ => ⟨[], .nil, fun k => by simp⟩
  | v :: vs, h => by
    obtain ⟨k, t, rfl⟩ := h _ (List.mem_cons_self ..)
    obtain ⟨ss, a, b⟩ := strs_of vs fun x hx => h x (List.mem_cons_of_mem _ hx)
    refine ⟨k :: ss, .cons k t a, fun j => ?_⟩
    rw [List.mem_cons, b j]
    constructor
    · rintro (rfl | ⟨u, hu⟩)
      · exact ⟨t, List.mem_cons_self ..⟩
      · exact ⟨u, List.mem_cons_of_mem _ hu⟩
    · rintro ⟨u, hu⟩
      rcases List.mem_cons.mp hu with e | hu
      · injection e with e1 _
        exact .inl e1
      · exact .inr ⟨u, hu⟩
theorem strsAre_len : ∀ {vs : List Value} {ss : List Str}, StrsAre vs ss → vs.length = ss.length
  | _, _, .nil => rfl
  | _, _, .cons _ _ r => by rw [List.length_cons, List.length_cons, strsAre_len r]
section
variable {P : Program} {w : World} {A : Around} {E : Value → Shared → Prop} {s : Shared} {a : Addr} {l : List Str}
theorem sorted_S {Q : Value → Shared → Prop} (R : SetS P w s.heap a l) (hh : A.handled = none)
    (q : ∀ s' p (out : Array Value) (c : Nat) (ys : List Str), (∀ b o, s.heap.get? b = some o → s'.heap.get? b = some o) → s'.gens = s.gens → s'.os = s.os → s.heap.objs.size ≤ p → s'.heap.get? p = some (seqObj "list" out c) → StrsAre out.toList ys → ys.Perm l → sortedS ys = true → Q (.ref p) s') :
    wpAny (model P w) A (call (.builtin "sorted") [.ref a]) Q E s := by
  obtain ⟨⟨es, ep, t⟩, ho, F, nd, lb, ri, le⟩ := R
  have fit : t.fits es.size = true := F.fit
  have sz : es.size = l.length := F.sz
  refine Calls.call_function_entry kind_sorted plain_sorted entry_sorted (args_sorted1 _) ?_
  unfold Builtin.«sorted»
  refine wpAny_bind (m := checkCount "sorted" 1 1 _) (wpAny_pure ?_)
  refine wpAny_bind (collect_set (A := A.in1) hh ⟨_, ho, rfl, rfl⟩ fit (by rw [sz]; exact lb) ri le fun s1 vs keep big gen1 os1 pm => ?_)
  have len : vs.length = l.length := by rw [pm.length_eq, List.length_map, Array.length_toList]; exact sz
  have shape : ∀ v ∈ vs, ∃ k u, v = Value.str k u := fun v hv => by
    obtain ⟨e, he, rfl⟩ := List.mem_map.mp (pm.mem_iff.mp hv)
    obtain ⟨⟨k, hk, _⟩, _⟩ := F.el e he
    obtain ⟨u, hu⟩ := Value.isStrOf_shape (x := k) (v := e.2) hk
    exact ⟨k, u, hu⟩
  obtain ⟨ss, are, mem⟩ := strs_of vs shape
  have pl : ss.Perm l := by
    refine (perm_of_sub nd (fun x hx => ?_) (by rw [← strsAre_len are, len]; exact Nat.le_refl _)).symm
    obtain ⟨e, he, hk⟩ := (F.mem x).mp hx
    obtain ⟨u, hu⟩ := Value.isStrOf_shape (x := x) (v := e.2) hk
    exact (mem x).mpr ⟨u, pm.mem_iff.mpr (List.mem_map.mpr ⟨e, he, hu⟩)⟩
  have line : vs.length ≤ sizeLine := by
    rw [len]
    have : scanBound ≤ sizeLine := by decide
    omega
  refine wpAny_bind (wpAny_newList ?_ line)
  have new : (s1.heap.push (seqObj "list" vs.toArray 0)).get? s1.heap.objs.size = some (seqObj "list" vs.toArray 0) := Heap.get?_push_size _ rfl
  refine wpAny_bind (wpAny_holding (wpAny_call_entry slot_list_sort ⟨_, new, rfl⟩ entry_list_sort (list_sort_treeKAny strKind_oneLt new are.keysOf (fun x y r e => keyKind_strs (by rw [← e]; exact are)) line fun st pa sa => ⟨_, rfl, ?_⟩) (args_list_sort _)))
  obtain ⟨ys, ya, yp, ysrt⟩ := sorted_out_str are pa sa
  obtain ⟨c, hc⟩ := sortedHeap_at (vs := vs) (out := (arrOf st).map (·.2)) new
  refine wpAny_pure ⟨_, rfl, q _ s1.heap.objs.size _ c ys (fun b u e => ?_) gen1 os1 big hc ya (yp.trans pl) ysrt⟩
  have e1 := keep b u e
  have lt := Heap.lt_size e1
  show (sortedHeap (s1.heap.push (seqObj "list" vs.toArray 0)) s1.heap.objs.size vs _).get? b = some u
  rw [sortedHeap_old (Nat.ne_of_lt lt) (by rw [Heap.size_push]; exact Nat.lt_succ_of_lt lt)]
  exact Heap.get?_push_of_some _ e1
end
section
variable {X : Cx}
/-- sorted(s), s a set of texts -/
def rSortS (P : Program) (w : World) : List V → Hp → VK → Prop := fun vs H Q => ∃ (a : Addr) (l : List Str), vs = [.ref a] ∧ H a = some (SetSO P w a l) ∧ l.length ≤ sizeLine ∧
  ∀ (ys : List Str) (p : Addr), ys.Perm l → l.Nodup → sortedS ys = true → H p = none → Q (.ref p) (upd H p (.lst (ys.map V.str)))
theorem cr_sortS (hc : X.calm = true) : CallR X (.builtin "sorted") (rSortS X.prog X.w) := by
  intro pins s σ H vs us Q I r h
  obtain ⟨a, l, rfl, ha, line, q⟩ := h
  have R := setSO_at I ha
  rw [Vals.ref1 r]
  obtain ⟨_, _, _, nd, _⟩ := id R
  refine sorted_S R (I.ok.hd hc) fun s' p out c ys keep gen os big hp hy py sy => ?_
  have ln : (ys.map V.str).length ≤ sizeLine := by rw [List.length_map, py.length_eq]; exact line
  have np : H p = none := I.hok.fresh big
  have J : L2.Inv X pins σ (upd H p (.lst (ys.map V.str))) { s with heap := s'.heap, gens := s'.gens, drawn := s'.drawn, toks := s'.toks } :=
    I.call (ch := []) (Un.laid keep big np) (I.hok.laid keep big ⟨ln, out.toList, c, vals_of_strs hy, hp⟩) (by rw [gen]; exact I.bare) (fun _ z => nomatch z)
  have e : s' = { s with heap := s'.heap, gens := s'.gens, drawn := s'.drawn, toks := s'.toks } := by
    cases s'; cases s; cases os; rfl
  rw [e]
  exact ⟨.ref p, _, J, rfl, q ys p py nd sy np⟩
end
/-- a set's comprehension over a list that the block leaves as it is -/
theorem scS_list {P : Program} {w : World} {K : PySem.W.Frag} {a : Addr} {xs : List V} {g : TG} {tt : TT} {te : L2.TE} {vs : List Nat} {σ : L2.St} {H1 : Hp} {D : Addr} {Qd : Hp → Prop} (Pv : Nat → Hp → Prop) (h0 : Pv 0 (upd H1 D (SetSO P w D [])))
    (hl : ∀ i H, i ≤ xs.length → Pv i H → SqL K H a xs)
    (turn : ∀ i x H, xs[i]? = some x → Pv i H → g x (wipe σ vs) H fun σ2 H2 => wipe σ2 vs = wipe σ vs ∧ tt σ2 H2 fun b H3 =>
      if b = true then te σ2 H3 fun y H4 => ∃ (k : Str) (l : List Str), y = .str k ∧ H4 D = some (SetSO P w D l) ∧ l.length + 1 < scanBound ∧ Pv (i + 1) (upd H4 D (SetSO P w D (insS l k))) else Pv (i + 1) H3)
    (fin : ∀ H, Pv xs.length H → Qd H) :
    ∃ W : Nat → Nat → Hp → Prop, (∃ m, W 0 m (upd H1 D (SetSO P w D []))) ∧ ∀ i m H, W i m H → ((Itl K a).stop i H ∧ Qd H) ∨ ((Itl K a).go i H ∧ ∃ N : Hp → Prop, (∀ H', N H' → ∃ m', m' < m ∧ W (i + 1) m' H') ∧
      ∀ x H', (Itl K a).yld i H x H' → g x (wipe σ vs) H' fun σ2 H2 => wipe σ2 vs = wipe σ vs ∧ tt σ2 H2 fun b H3 =>
        if b = true then te σ2 H3 fun y H4 => ∃ (k : Str) (l : List Str), y = .str k ∧ H4 D = some (SetSO P w D l) ∧ l.length + 1 < scanBound ∧ N (upd H4 D (SetSO P w D (insS l k))) else N H3) := by
  refine ⟨fun i m H => m + i = xs.length ∧ Pv i H, ⟨xs.length, by omega, h0⟩, fun i m H ⟨em, p⟩ => ?_⟩
  have st := hl i H (by omega) p
  cases m with
  | zero =>
    have e : i = xs.length := by omega
    subst e
    exact .inl ⟨⟨xs, st, Nat.le_refl _⟩, fin H p⟩
  | succ m =>
    have lt : i < xs.length := by omega
    refine .inr ⟨⟨xs, xs[i], st, by simp [lt]⟩, Pv (i + 1), fun H' p' => ⟨m, Nat.lt_succ_self _, by omega, p'⟩, ?_⟩
    rintro x H' ⟨rfl, y⟩
    exact turn i x _ (y xs st) p
end Mine

set_option Elab.async false
set_option linter.all false
set_option maxRecDepth 100000
set_option maxHeartbeats 4000000
/-! t[lo:hi] as a plain tuple; xs.extend(t) of a plain tuple. -/
namespace Mine
open PySem PySem.Spec PyProof.Rows L2
/-- an object that is a tuple and no more -/
def PlainO (o : Obj) : Prop := o.dict = none ∧ o.slots = #[]
def rSlF (K : PySem.W.Frag) : V → Option Int → Option Int → Hp → VK → Prop := fun x lo hi H Q => ∃ a xs, x = .ref a ∧ SqT K H a xs ∧ ¬ (HT.sIx xs.length 0 lo = 0 ∧ HT.sIx xs.length xs.length hi = xs.length) ∧
  ∀ p o, H p = none → PlainO o → Q (.ref p) (upd H p (.frz o (.tup (cutV xs lo hi))))
section
variable {X : Cx}
theorem sl_tupF : SlR X (rSlF X.K) := by
  intro pins s σ H x v vl vu lo hi sl Q I rx hs pl pu h
  obtain ⟨a, xs, rfl, hx, part, q⟩ := h
  cases rx
  obtain ⟨its, r, ht, hz⟩ := I.tuple hx
  have len : its.toArray.size = xs.length := by rw [List.size_toArray]; exact r.length.symm
  refine ⟨"tuple", _, PyProof.Rows.slot_tuple_getitem.lookup, ht.typeIs, HT.getItem_tuple_cut ht hs pl pu (by rw [len]; exact part) ?_ (by rw [len]; exact hz)⟩
  rw [len]
  have cut := (r.drop (HT.sIx xs.length 0 lo)).take (HT.sIx xs.length xs.length hi - HT.sIx xs.length 0 lo)
  refine ⟨.ref s.heap.objs.size, _, I.laid (t' := s.toks) (fun b ob e => Heap.get?_push_of_some _ e) (Nat.le_refl _) (show ObjOk X.prog X.w _ _ _ (.frz _ (.tup (cutV xs lo hi))) from ⟨Heap.get?_push_size _ rfl, Nat.le_trans (cutV_length xs lo hi) hz, _, cut, IsTup.new _ _⟩), rfl, q _ _ (I.hok.fresh (Nat.le_refl _)) ⟨rfl, rfl⟩⟩
def rExtF : V → List V → Hp → VK → Prop := fun x vs H Q => ∃ l b o xs zs, x = .ref l ∧ vs = [.ref b] ∧ H l = some (.lst xs) ∧ H b = some (.frz o (.tup zs)) ∧ PlainO o ∧ xs.length + zs.length ≤ sizeLine ∧ Q .non (upd H l (.lst (xs ++ zs)))
theorem mt_extendF : MtM X "list.extend" rExtF := by
  intro pins s σ H x vs v us Q I rx rv h
  obtain ⟨l, b, o, xs, zs, rfl, rfl, hl, hb, ⟨od, os⟩, hz, q⟩ := h
  cases rx
  obtain ⟨u, rfl, ru⟩ := rv.one
  cases ru
  obtain ⟨z, its, n, r, _, e⟩ := I.lstM hl
  obtain ⟨g, _, its2, r2, o', g', oc, n2, odat⟩ := (show ObjOk X.prog X.w H s.heap _ (.frz o (.tup zs)) from I.hok _ _ hb)
  rw [g] at g'
  cases g'
  have eo : o = { cls := .type "tuple", dict := none, data := .seq its2.toArray n2, slots := #[] } := by
    obtain ⟨c, d, da, sl⟩ := o
    simp only at od os oc odat
    rw [od, os, oc, odat]
  rw [eo] at g
  have l1 := r.length
  have l2 := r2.length
  have sum : its.toArray.size + its2.toArray.size ≤ sizeLine := by
    rw [List.size_toArray, List.size_toArray]
    omega
  have short : ¬ (!its.toArray.isEmpty && Builtin.List.listTooLong (its.toArray.size + its2.toArray.size)) = true := by
    rw [notLongL sum, Bool.and_false]
    exact Bool.false_ne_true
  refine call_meets PySem.F.slot_list_extend ⟨_, e, rfl⟩ PySem.F.entry_list_extend (PySem.F.args_list_extend_2 _ _) (AutoSeq1.list_extend_list_tuple_0 l its.toArray n b its2.toArray n2 short (by omega) (by omega)) ⟨e, g, ?_⟩
  exact ⟨.non, _, I.lset (its' := its ++ its2) hl e (by simp) (r.append r2) (by rw [List.length_append]; exact hz), rfl, q⟩
end
end Mine

set_option Elab.async false
set_option linter.all false
set_option maxRecDepth 100000
set_option maxHeartbeats 4000000
/-! dict(zip(xs, ys)) of two lists. -/
namespace Mine
open PySem PySem.Spec PyProof.Rows L2
theorem zip_kv : ∀ {ks : List Key} {ys : List V} {us ws : List Value}, Vals (ks.map kV) us → Vals ys ws → KV (ks.zip ys) (ks.zip ws)
  | [], _, _, _, _, _ => .nil
  | k :: ks, [], _, _, _, r => by
    cases r
    exact .nil
  | k :: ks, y :: ys, _, _, r, r' => by
    cases r with
    | cons _ r =>
      cases r' with
      | cons h r' => exact .cons ⟨rfl, h⟩ (zip_kv r r')
section
variable {X : Cx} {e e2 : Expr} {ta : L2.TA} {p p2 pos pos2 : Pos}
def tDictZip (K : PySem.W.Frag) (ta : L2.TA) : L2.TE := fun σ H Q => ta σ H fun vs H1 => ∃ (a b : Addr) (ks : List Key) (ys : List V), vs = [.ref a, .ref b] ∧ SqL K H1 a (ks.map kV) ∧ SqL K H1 b ys ∧ ks.length = ys.length ∧
  ∀ q, H1 q = none → Q (.ref q) (upd H1 q (.dK (mergeK [] (ks.zip ys))))
theorem pe_dictZip (hc : X.calm = true) (hg : Gl X "dict") (hm : X.mg "dict" = none) (hg2 : Gl X "zip") (hm2 : X.mg "zip" = none) (ha : L2.PA X [e, e2] ta)
    (hs : starEach [e, e2] X.env = (false, eval e X.env) :: starEach [e2] X.env := by rfl) (hpl : (backTo pos2 (starEach [e2] X.env)).any (·.1) = false := by rfl)
    (na : starEach [Expr.Call (.Name "zip" p2) [e, e2] [] pos2] X.env = (false, eval (Expr.Call (.Name "zip" p2) [e, e2] [] pos2) X.env) :: starEach [] X.env := by rfl) :
    L2.PE X (.Call (.Name "dict" p) [.Call (.Name "zip" p2) [e, e2] [] pos2] [] pos) (tDictZip X.K ta) := by
  refine ⟨fun pins s σ H Q I h => ?_⟩
  refine Call_ (ld_blt I hg hm PyProof.Rows.boot_dict (PyProof.Rows.callWith_type1 (args_cons ?_ na) na))
  refine Call_ (ld_blt I hg2 hm2 PyProof.Rows.boot_zip (PyProof.Rows.callWith_type1 (thn (ha.run pos2 pins s σ H _ I h) fun us s1 ⟨vs, H1, I1, r1, a, b, ks, ys, ex, hx, hy, len, q⟩ => ?_) hs hpl))
  subst ex
  obtain ⟨u1, u2, rfl, ra, rb⟩ := vals2 r1
  cases ra
  cases rb
  obtain ⟨its, rv, pa, za⟩ := I1.list hx
  obtain ⟨its2, rv2, pb, _⟩ := I1.list hy
  refine call_zip_2 pa.isList pb.isList fun h' hz hTI hTO h1 h2 hsz keep => args_nil ?_
  have I2 : L2.Inv X pins σ H1 { s1 with heap := h' } := I1.kept (t' := s1.toks) keep
  have l1 := rv.length
  have l2 := rv2.length
  rw [List.length_map] at l1
  have ok : PairsHave (mixKind X.prog X.w) (min its.toArray.size its2.toArray.size) (fun i k v => its.toArray[i]? = some k ∧ its2.toArray[i]? = some v) (ks.zip its2) := by
    refine ⟨?_, fun i key v ⟨e1, e2⟩ => ?_⟩
    · rw [List.length_zip, List.size_toArray, List.size_toArray, l1]
    · rw [List.getElem?_toArray] at e1 e2
      obtain ⟨k, hk⟩ : ∃ k, ks[i]? = some k := by
        have : i < ks.length := by
          rw [l1]
          exact (List.getElem?_eq_some_iff.mp e1).1
        exact ⟨ks[i], List.getElem?_eq_getElem this⟩
      refine ⟨k, by rw [List.getElem?_zip_eq_some]; exact ⟨hk, e2⟩, ?_⟩
      have : RelV (kV k) key := by
        have hk' : (ks.map kV)[i]? = some (kV k) := by rw [List.getElem?_map, hk]; rfl
        obtain ⟨u, hu, ru⟩ := rv.get hk'
        rw [e1] at hu
        cases hu
        exact ru
      exact kV_is this
  have line : min its.toArray.size its2.toArray.size ≤ sizeLine := by
    rw [List.size_toArray, ← l1]
    rw [List.length_map] at za
    omega
  refine PySem.call_dict_pairs (PairArg.zip _ _ _ _ _ a b (PySem.W.ktu_apart s1.heap.objs.size a b pa.lt pb.lt) its.toArray its2.toArray) (I1.ok.hd hc) ⟨hz, hTI, ⟨_, _, hTO⟩, h1, h2, ?_, ?_⟩ ok line fun h2 tk hd keep2 => ?_
  · exact pa.isList.at fun o e => keep _ o e
  · exact pb.isList.at fun o e => keep _ o e
  have hm' : (h'.objs.size == sysModules) = false := beq_eq_false_iff_ne.mpr (Nat.ne_of_gt I2.big)
  have kl : (mergeK [] (ks.zip ys)).length ≤ sizeLine := by
    refine Nat.le_trans (length_mergeK _ []) ?_
    rw [List.length_nil, Nat.zero_add, List.length_zip]
    rw [List.length_map] at za
    omega
  have nH : H1 h'.objs.size = none := I2.hok.fresh (Nat.le_refl _)
  have low : s1.heap.objs.size ≤ h'.objs.size := by omega
  refine ⟨.ref h'.objs.size, upd H1 h'.objs.size (.dK (mergeK [] (ks.zip ys))), I1.laid (t' := tk) (fun c o e => ?_) low (show ObjOk X.prog X.w _ _ _ (.dK (mergeK [] (ks.zip ys))) from ⟨kl, hm', merged [] _, KV.merge (zip_kv rv rv2) .nil, hd⟩), rfl, q _ nH⟩
  have lt := Heap.lt_size e
  refine keep2 c o (fun z => ?_) (keep c o e)
  simp only [List.mem_cons, List.not_mem_nil, or_false] at z
  rcases z with rfl | rfl | rfl | rfl
  · exact Nat.not_lt.mpr (Nat.le_add_right _ _) lt
  · exact Nat.not_lt.mpr (Nat.le_add_right _ _) lt
  · exact Nat.lt_irrefl _ lt
  · exact Nat.not_lt.mpr (Nat.le_add_right _ _) lt
end
end Mine

set_option Elab.async false
set_option linter.all false
set_option maxRecDepth 100000
set_option maxHeartbeats 4000000
/-! sorted(d) of a dict with any number of keys, all texts. -/
namespace Mine
open PySem PySem.Spec PyProof.Rows L2
section
variable {X : Cx}
theorem call_sortedDA (hc : X.calm = true) : CallR X (.builtin "sorted") (fun xs H Q => ∃ (a : Addr) (kvs : List (Key × V)) (ks : List Str), xs = [.ref a] ∧ Rd H a (.dK kvs) ∧ kvs.map (·.1) = ks.map Sum.inr ∧
    ∀ ys p, ys.Perm ks → sortedS ys = true → H p = none → Q (.ref p) (upd H p (.lst (ys.map V.str)))) := by
  intro pins s σ H xs us Q I r q
  obtain ⟨a, kvs, ks, rfl, hd, keys, q⟩ := q
  obtain ⟨u, rfl, rx⟩ := vals1 r
  cases rx
  obtain ⟨sz, low, vs, rel, dd⟩ := dk_rd I.hok hd
  obtain ⟨ep, at_⟩ := dd.dictAt
  have vk : vs.map (·.1) = ks.map Sum.inr := rel.keys.symm.trans keys
  have vl : vs.length = ks.length := by simpa using congrArg List.length vk
  have line : vs.length ≤ sizeLine := by
    have := rel.length
    omega
  refine Calls.call_function_entry PyProof.Rows.kind_sorted PyProof.Rows.plain_sorted PyProof.Rows.entry_sorted (PyProof.Rows.args_sorted1 _) ?_
  unfold Builtin.«sorted»
  refine wpAny_bind (m := checkCount "sorted" 1 1 _) (wpAny_pure ?_)
  refine wpAny_bind (PySem.W.kdu_collect (A := X.A.in1) (PySem.W.kdl_dict (knd := mixKind X.prog X.w) (kvs := vs) (ep := ep) low) (I.ok.hd hc) at_ line fun h1 t1 acc keep told => ?_)
  have al : acc.toList.length = ks.length := by rw [Array.length_toList, told.1, vl]
  have are : StrsAre acc.toList ks := strs_at al fun j v e => by
    obtain ⟨k, x, e1, e2⟩ := told.2 j v (by rw [← Array.getElem?_toList]; exact e)
    have e3 : (ks.map (Sum.inr : Str → Key))[j]? = some k := by rw [← vk, List.getElem?_map, e1]; rfl
    rw [List.getElem?_map] at e3
    obtain ⟨y, hy, rfl⟩ := Option.map_eq_some_iff.mp e3
    obtain ⟨t, ev⟩ := Value.isStrOf_shape (x := y) (v := v) e2
    exact ⟨y, t, hy, ev⟩
  have I1 : L2.Inv X pins σ H { s with heap := h1, toks := t1 } := I.kept keep
  have al2 : acc.toList.length ≤ sizeLine := by omega
  refine wpAny_bind (wpAny_newList ?_ al2)
  have new : (h1.push (seqObj "list" acc.toList.toArray 0)).get? h1.objs.size = some (seqObj "list" acc.toList.toArray 0) := Heap.get?_push_size _ rfl
  show wpAny _ _ _ _ _ { s with heap := h1.push (seqObj "list" acc.toList.toArray 0), toks := t1 }
  refine wpAny_bind (wpAny_holding (wpAny_call_entry PyProof.Rows.slot_list_sort ⟨_, new, rfl⟩ PyProof.Rows.entry_list_sort
    (list_sort_treeKAny strKind_oneLt (s := { s with heap := h1.push (seqObj "list" acc.toList.toArray 0), toks := t1 }) new are.keysOf (fun x y z e => keyKind_strs (by rw [← e]; exact are)) al2 fun st pa sa => ⟨_, rfl, ?_⟩) (PyProof.Rows.args_list_sort _)))
  obtain ⟨ys, ya, yp, ysrt⟩ := sorted_out_str are pa sa
  obtain ⟨c, hcc⟩ := PyProof.Rows.sortedHeap_at (vs := acc.toList) (out := (arrOf st).map (·.2)) new
  have yl : (ys.map V.str).length ≤ sizeLine := by
    rw [List.length_map, yp.length_eq]
    omega
  refine wpAny_pure ⟨_, rfl, .ref h1.objs.size, upd H h1.objs.size (.lst (ys.map V.str)), I1.laid (t' := t1) (fun b u e => ?_) (Nat.le_refl _)
    (show ObjOk X.prog X.w _ _ _ (.lst (ys.map V.str)) from ⟨yl, ((arrOf st).map (·.2)).toList, c, vals_of_strs ya, by rw [Array.toArray_toList]; exact hcc⟩), rfl, q ys _ yp ysrt (I1.hok.fresh (Nat.le_refl _))⟩
  have lt : b < h1.objs.size := Heap.lt_size e
  rw [PyProof.Rows.sortedHeap_old (Nat.ne_of_lt lt) (by rw [Heap.size_push]; exact Nat.lt_succ_of_lt lt)]
  exact Heap.get?_push_of_some _ e
end
end Mine

set_option Elab.async false
set_option linter.all false
set_option maxRecDepth 100000
set_option maxHeartbeats 4000000
/-! set(xs), xs a list of texts: a set that can be walked. -/
namespace Mine
open PySem PySem.Spec PyProof.Rows L2 PySem.Froz
/-- a set just made -/
abbrev bareS (w : World) : Obj := { cls := .type "set", dict := none, data := .set #[] 0 (.fresh 0 0 (!w.params.followText "set-order")) }
theorem bareS_at {P : Program} {w : World} {hp : Heap} {a : Addr} (e : hp.get? a = some (bareS w)) : SetS P w hp a [] := by
  refine ⟨(#[], 0, .fresh 0 0 (!w.params.followText "set-order")), e, TxOk.nil (by rfl), List.nodup_nil, by decide, List.Pairwise.nil, ?_⟩
  show _ ∨ (!w.params.followText "set-order") = true
  cases w.params.followText "set-order"
  · exact .inr rfl
  · exact .inl rfl
/-- the set at a has just the texts of l -/
def HasS (P : Program) (w : World) (hp : Heap) (a : Addr) (l : List Str) : Prop := ∃ ks, SetS P w hp a ks ∧ (∀ x, x ∈ ks ↔ x ∈ l) ∧ ks.length ≤ l.length
section
variable {P : Program} {w : World} {A : Around} {E : Value → Shared → Prop} {s : Shared}
theorem fillS {J : Addr} {fp wr : List Addr} {Gn : Array GenState → Array GenState → Prop} {n : Nat} {Pv : Nat → Value → Prop} {Sv : Nat → Shared → Prop} {R : Result → Shared → Prop} (W : WalksS P w A.in1 J fp wr Gn n Pv Sv) (a : Addr) (out : a ∉ fp) (l : List Str) (len : n = l.length)
    (room : l.length + 1 < scanBound) (val : ∀ i v, Pv i v → ∃ k t, l[i]? = some k ∧ v = .str k t) : ∀ (left i : Nat) (s : Shared), n = i + left → Sv i s → HasS P w s.heap a (l.take i) →
      (∀ s', Moved (a :: wr) Gn s s' → HasS P w s'.heap a l → R (.ok (.ret .none)) s') → codeAny (model P w) A (.builtin "set.update.loop" ⟨[.ref a, .ref J], []⟩) R s := by
  have outw : a ∉ wr := fun z => out (W.sub _ z)
  have more : ∀ b ∈ wr, b ∈ a :: wr := fun b z => List.mem_cons_of_mem _ z
  intro left
  induction left with
  | zero =>
    intro i s e sv ⟨ks, st, mem, kl⟩ q
    refine codeAny_builtin F.entry_set_update_loop ?_
    rw [Around.under_plainId F.plain_set_update_loop _]
    refine wpAny_bind (W.done s _ _ (by rwa [show n = i by omega]) fun s' mv => ?_)
    rw [List.take_of_length_le (by omega)] at mem kl
    exact wpAny_pure (q s' (mv.mono more) ⟨ks, st.at' fun o z => mv.heap a o outw z, mem, kl⟩)
  | succ left ih =>
    intro i s e sv ⟨ks, st, mem, kl⟩ q
    refine codeAny_builtin F.entry_set_update_loop ?_
    rw [Around.under_plainId F.plain_set_update_loop _]
    refine wpAny_bind (W.item i s _ _ (by omega) sv fun v s' pv sv' mv => ?_)
    obtain ⟨k, t, hk, rfl⟩ := val i v pv
    have tk : l.take (i + 1) = l.take i ++ [k] := by rw [List.take_add_one, hk]; rfl
    have kl' : ks.length ≤ i := by
      rw [List.length_take] at kl
      omega
    refine wpAny_bind (wpAny_holding ?_)
    unfold setAdd
    refine wpAny_holding (wpAny_bind ((strKind P w).pyHash (is_str k t) ?_))
    refine addHashed_S (s := { s' with toks := s'.toks + 1 }) (st.at' fun o z => mv.heap a o outw z) (by omega) fun _ hp keep st2 => ?_
    refine wpAny_pure ⟨plainId_quiet F.plain_set_update_loop _, ih (i + 1) _ (by omega) (W.frame _ s' _ _ sv' (Nat.le_succ _) fun b hb o z => keep b o (fun y => out (y ▸ hb)) z) ⟨insS ks k, st2, fun x => ?_, ?_⟩ fun s2 mv2 h2 => q s2 (Moved.trans W.gtrans ((mv.mono more).then_heap (Nat.le_succ _) fun b o nb z => keep b o (fun y => nb (y ▸ List.mem_cons_self ..)) z) mv2) h2⟩
    · rw [mem_insS, mem, tk, List.mem_append, List.mem_singleton]
      exact or_comm
    · have := insS_len (l := ks) (k := k)
      rw [List.length_take]
      have : i < l.length := by omega
      omega
set_option maxHeartbeats 8000000 in
theorem call_setS {b : Addr} {its : Array Value} {l : List Str} {Q : Value → Shared → Prop} (hh : A.handled = none) (at_ : s.heap.IsList b its) (are : StrsAre its.toList l) (room : l.length + 1 < scanBound)
    (q : ∀ (hp : Heap) (tk : Nat), HasS P w hp s.heap.objs.size l → (∀ c o, s.heap.get? c = some o → hp.get? c = some o) → Q (.ref s.heap.objs.size) { s with heap := hp, toks := tk }) : wpAny (model P w) A (call (.type "set") [.ref b]) Q E s := by
  have num : its.size = l.length := by
    rw [← Array.length_toList]
    exact strsAre_len are
  have ⟨cc, rest, mro⟩ := F.called_set.mro
  have made := F.called_set.made
  have sub := F.called_set.sub
  refine wpAny_call (codeAny_of_tree (wpAny_pure ⟨Code.quiet_builtin _ (by decide +kernel), codeAny_builtin F.entry_type_call ?_⟩))
  rw [Around.under_plain (weight_type_call_type "set" [.ref b] []) rfl]
  have nt := F.called_set.notType
  have cr := F.called_set.canCreate
  have tc := F.typeCall_set_1 (.ref b)
  repeat (any_goals (first | assumption | wp_step))
  refine codeAny_mono (L2.code_set_led1 (.ref b) (E := E) (Q₁ := fun v s1 => v = .ref s.heap.objs.size ∧ s1 = { s with heap := s.heap.push (bareS w) }) ⟨rfl, rfl⟩) fun r s1 h1 => ?_
  cases r with
  | error e => exact h1
  | ok f1 =>
    cases f1 with
    | ret v =>
      obtain ⟨rfl, rfl⟩ := h1
      have new : (s.heap.push (bareS w)).get? s.heap.objs.size = some (bareS w) := Heap.get?_push_size _ rfl
      have ty : Shared.TypeIs { s with heap := s.heap.push (bareS w) } (.ref s.heap.objs.size) "set" := ⟨_, new, rfl⟩
      have li := F.called_set.init.lookup
      have bi := F.called_set.init.bind (.ref s.heap.objs.size)
      repeat (any_goals (first | assumption | wp_step))
      refine codeAny_mono (codeAny_call_builtin (R := wants (fun v s2 => v = .none ∧ ∃ hp tk, s2 = { s with heap := hp, toks := tk } ∧ HasS P w hp s.heap.objs.size l ∧ (∀ c o, s.heap.get? c = some o → hp.get? c = some o)) E) F.called_set.init.plain F.entry_set_init (check_set_init_1 ty ?_)) fun r2 s2 h2 => ?_
      · obtain ⟨⟨oc, od, oa, os⟩, he, hc, m, hd⟩ := at_
        simp only at hc hd
        subst hc hd
        have he1 : (s.heap.push (bareS w)).get? b = some { cls := .type "list", dict := od, data := .seq its m, slots := os } := Heap.get?_push_of_some _ he
        have sl1 := F.sub_list_set
        have sl2 := F.sub_list_frozenset
        have nd : (Value.type "list" == Value.type "dict") = false := by decide
        have il : (s.heap.push (bareS w)).IsList b its := ⟨_, he1, rfl, m, rfl⟩
        unfold Builtin.«set.__init__» noKeywords Builtin.Frozenset.updateFrom
        generalize hI : pyIter = I0
        wp_walk
        subst hI
        refine wpAny_pyIter_list il (wpAny_bind (wpAny_runValue ?_))
        have lt := Heap.lt_size he
        have sz : (s.heap.push (bareS w)).objs.size = s.heap.objs.size + 1 := Heap.size_push ..
        refine fillS ((Walks.list (by simp [hh]) _ b (Nat.ne_of_lt (by rw [Heap.size_push]; exact Nat.lt_succ_of_lt lt)) its).toS) s.heap.objs.size (fun z => ?_) l num room (fun i v hv => ?_) its.size 0 _ (by omega) ⟨⟨_, Heap.get?_push_size _ rfl, rfl, rfl⟩, il.push _⟩ ⟨[], bareS_at (Heap.get?_push_of_some _ new), fun x => by simp, Nat.zero_le _⟩ fun s2 mv h2 => ?_
        · rw [Heap.size_push] at z
          simp only [List.mem_cons, List.not_mem_nil, or_false] at z
          rcases z with z | z
          · exact absurd z (Nat.ne_of_lt (Nat.lt_succ_self _))
          · exact absurd z (Nat.ne_of_gt lt)
        · have hi : i < l.length := by
            rw [← num]
            exact (Array.getElem?_eq_some_iff.mp hv).1
          obtain ⟨t, e⟩ := SS.strs_at are i v (by rw [Array.getElem?_toList]; exact hv)
          exact ⟨l[i], t, List.getElem?_eq_getElem hi, by rw [e, List.getD_eq_getElem?_getD, List.getElem?_eq_getElem hi] <;> rfl⟩
        · obtain ⟨hp2, g2, d2, t2, o2⟩ := s2
          have eg : g2 = s.gens := mv.gens
          have ed : d2 = s.drawn := mv.drawn
          have eo : o2 = s.os := mv.os
          subst eg ed eo
          refine wpAny_pure (wpAny_pure ⟨rfl, hp2, t2, rfl, h2, fun c o e => ?_⟩)
          have ltc := Heap.lt_size e
          refine mv.heap c o (fun z => ?_) (Heap.get?_push_of_some _ (Heap.get?_push_of_some _ e))
          rw [Heap.size_push] at z
          simp only [List.mem_cons, List.not_mem_nil, or_false] at z
          rcases z with z | z
          · exact absurd z (Nat.ne_of_lt ltc)
          · exact absurd z (Nat.ne_of_lt (Nat.lt_succ_of_lt ltc))
      · cases r2 with
        | error e => exact h2
        | ok f2 =>
          cases f2 with
          | ret v =>
            obtain ⟨rfl, hp, tk, rfl, has, keep⟩ := h2
            repeat (any_goals (first | assumption | wp_step))
            exact q _ _ has keep
          | _ => exact h2.elim
    | _ => exact h1.elim
end
section
variable {X : Cx}
/-- set(xs), xs a list of texts -/
def rSetL (P : Program) (w : World) (K : PySem.W.Frag) : List V → Hp → VK → Prop := fun vs H Q => ∃ (b : Addr) (l : List Str), vs = [.ref b] ∧ SqL K H b (l.map V.str) ∧ l.length + 1 < scanBound ∧
  ∀ (p : Addr) (ks : List Str), H p = none → (∀ x, x ∈ ks ↔ x ∈ l) → ks.length ≤ l.length → Q (.ref p) (upd H p (SetSO P w p ks))
theorem cr_setL (hc : X.calm = true) : CallR X (.type "set") (rSetL X.prog X.w X.K) := by
  intro pins s σ H vs us Q I r h
  obtain ⟨b, l, rfl, hb, room, q⟩ := h
  obtain ⟨u, rfl, rv⟩ := vals1 r
  cases (show u = Value.ref b from rv)
  obtain ⟨its, rs, pl, hz⟩ := I.list hb
  refine call_setS (P := X.prog) (w := X.w) (I.ok.hd hc) pl.isList (l := l) (by simpa using L2.strsAre_of rs) room fun hp tk ⟨ks, st, mem, kl⟩ keep => ?_
  exact ⟨.ref _, _, I.laid (t' := tk) keep (Nat.le_refl _) (setSO_ok st), rfl, q _ ks (I.hok.fresh (Nat.le_refl _)) mem kl⟩
end
end Mine

set_option Elab.async false
set_option linter.all false
set_option maxRecDepth 100000
set_option maxHeartbeats 4000000
/-! A def called by keywords alone; repr of deeper data. -/
namespace Mine
open PySem PySem.Spec PyProof.Rows L2
section
variable {X : Cx} {k : Nat} {f : Addr} {fd : FuncData} {ps ks : List Str} {sp : L2.Sp} {x : Str} {p pos : Pos} {kws : List Keyword} {tk : TA} {g : List Value → List Value} {gV : List V → List V}
def tKw (sp : L2.Sp) (gV : List V → List V) (tk : TA) : TE := fun σ H Q => tk σ H fun zs H1 => sp (gV zs) H1 Q E0
/-- f(k1 = .., k2 = ..) -/
theorem pe_kw (F : FnOk X.prog X.w X.K X.mg X.base CX0 k f fd ps sp) (hr : Room k X.A) (hg : Gl X x) (hm : X.mg x = some (.ref f)) (hk : PySem.W.keepIn X.K (.ref f) = true) (hb : ∀ (s : Shared) (ws : List Value), ws.length = ks.length → BindsTo s fd ⟨[], ks.zip ws⟩ (ps.zip (g ws)))
    (hv : ∀ zs ws, Vals zs ws → Vals (gV zs) (g ws)) (hl : ∀ zs, (gV zs).length = ps.length → zs.length = ks.length) (hkw : PK X kws tk) (hall : (backToKw pos (keywordEach kws X.env)).all (·.1.isSome) = true := by rfl) (hks : (backToKw pos (keywordEach kws X.env)).filterMap (·.1) = ks := by rfl)
    (hdb : (x == ("__debug__" : Str)) = false := by decide) (hpl : ((backTo pos (starEach [] X.env)).any (·.1) || (backToKw pos (keywordEach kws X.env)).any (·.1.isNone)) = false := by rfl) :
    PE X (.Call (.Name x p) [] kws pos) (tKw sp gV tk) := by
  refine ⟨fun pins s σ H Q I h => ?_⟩
  refine wpAny_Call_Name_kw (ld_glob I hg hm ?_ hdb)
  refine PySem.W.callWith_KW0 (first := []) (h₀ := X.base) I.ok.mod.kin hk hall ?_ hpl
  refine thn (hkw.run pos pins s σ H _ I h) fun ws s1 ⟨zs, H1, I1, rz, q⟩ => ⟨I1.kIn, ?_⟩
  rw [hks]
  have r2 := hv zs ws rz
  have l2 : ws.length = ks.length := rz.length.symm.trans (hl zs (F.len _ _ _ _ q))
  show wpAny _ _ (call (.ref f) [] (ks.zip ws)) _ _ _
  refine wpAny_call (codeAny_mono (F.run X.A X.stack s1 H1 ⟨[], ks.zip ws⟩ (g ws) (gV zs) Q E0 hr I1.env0 (hb s1 ws l2) r2 q) fun r s' hq => ?_)
  cases r with
  | error e => exact pass0 pins σ H1 s1 e s' I1 hq
  | ok fl =>
    cases fl with
    | ret u => exact I1.after hq
    | next => exact False.elim hq
    | brk => exact False.elim hq
    | cont => exact False.elim hq
end
/-- repr of a list or a tuple of any depth -/
def rReprQ (m : Nat) (K : PySem.W.Frag) : List V → Hp → VK → Prop := fun xs H Q => ∃ (a : Addr) (vs : List V) (ds : List PyData), xs = [.ref a] ∧ DpAll K H vs ds ∧
  ((SqL K H a vs ∧ Shows sizeLine m (.list ds) ∧ Q (.str (PyData.shown (.list ds))) H) ∨ (SqT K H a vs ∧ Shows sizeLine m (.tuple ds) ∧ Q (.str (PyData.shown (.tuple ds))) H))
theorem call_reprQ {X : Cx} {m : Nat} (hg : X.A.guards = some []) (hu : X.A.units + m + 20 < cLine) : CallR X (.builtin "repr") (rReprQ m X.K) := by
  intro pins s σ H xs us Q I r h
  obtain ⟨a, vs, ds, rfl, r', h⟩ := h
  obtain ⟨u, rfl, rv⟩ := vals1 r
  cases (show u = Value.ref a from rv)
  rcases h with ⟨e, S, q⟩ | ⟨e, S, q⟩
  · obtain ⟨its, rvs, ⟨o, n, he, hc, hdn, hd⟩, _⟩ := I.list e
    have hz' : (listText (PyData.shownAll ds)).length ≤ sizeLine := by simpa only [PyData.shown] using S.len
    have rks := dps_rks I ds _ its r' rvs (by simpa [PyData.showable] using S.ok) fun t ht => Nat.le_trans (listText_mem_le ht) hz'
    obtain ⟨⟨as, ra⟩, bs, mm, k⟩ := rks
    have rd : Reads s.heap (.ref a) (.list ds) (a :: as) := .list he hc hd ra
    have out : a ∉ bs := not_mem_of_deeper rd (by simp only [PyData.depth]; omega) mm
    have dep : PyData.depthAll ds + 1 ≤ m := by simpa only [PyData.depth] using S.dep
    have fin : ∀ h' u tk, (∀ b o, s.heap.get? b = some o → h'.get? b = some o) → L2.EP X pins σ Q (.str (PyData.shown (.list ds)) u) { s with heap := h', toks := tk } := fun h' u tk kp => ⟨.str _, H, I.kept kp, ⟨_, rfl⟩, q⟩
    refine call_repr_slot (by omega) ⟨_, he, hc⟩ PySem.F.slot_list_repr.toG ?_
    cases its with
    | nil =>
      cases ra
      refine call_list_repr_empty ⟨_, he, hc⟩ he hd ⟨_, _, rfl, ?_⟩
      have e0 : PyData.shown (.list []) = ("[]" : Str) := by simp only [PyData.shown, PyData.shownAll, listText_nil]
      rw [← e0]
      exact fin _ _ _ fun _ _ z => z
    | cons x l =>
      refine call_list_reprK he hc hd out (by simpa using k.length_eq) (fun i y e => k.item i y (by simpa using e)) (A := X.A.in1) hg (fun b _ => Clear.nil b) (by show X.A.units + 1 + _ < _; omega) (fun _ _ z => z) (fun h' u tk kp => ⟨_, _, rfl, ?_⟩) hz'
      have e0 : PyData.shown (.list ds) = listText (PyData.shownAll ds) := by simp only [PyData.shown]
      rw [← e0]
      exact fin h' u tk kp
  · obtain ⟨its, rvs, ⟨o, he, hc, n, hd⟩, _⟩ := I.tuple e
    have hz' : (tupleText (PyData.shownAll ds)).length ≤ sizeLine := by simpa only [PyData.shown] using S.len
    have rks := dps_rks I ds _ its r' rvs (by simpa [PyData.showable] using S.ok) fun t ht => Nat.le_trans (tupleText_mem_le ht) hz'
    obtain ⟨⟨as, ra⟩, bs, mm, k⟩ := rks
    have rd : Reads s.heap (.ref a) (.tuple ds) as := .tuple he hc hd ra
    have out : a ∉ bs := not_mem_of_deeper rd (by simp only [PyData.depth]; omega) mm
    have dep : PyData.depthAll ds + 1 ≤ m := by simpa only [PyData.depth] using S.dep
    have fin : ∀ h' u tk, (∀ b o, s.heap.get? b = some o → h'.get? b = some o) → L2.EP X pins σ Q (.str (PyData.shown (.tuple ds)) u) { s with heap := h', toks := tk } := fun h' u tk kp => ⟨.str _, H, I.kept kp, ⟨_, rfl⟩, q⟩
    refine call_repr_slot (by omega) ⟨_, he, hc⟩ PySem.F.slot_tuple_repr ?_
    refine call_tuple_reprK he hc hd out (by simpa using k) (A := X.A.in1) hg (fun b _ => Clear.nil b) (by show X.A.units + 1 + _ < _; omega) (fun _ _ z => z) (fun h' u tk kp => ⟨_, _, rfl, ?_⟩) hz'
    have e0 : PyData.shown (.tuple ds) = tupleText (PyData.shownAll ds) := by simp only [PyData.shown]
    rw [← e0]
    exact fin h' u tk kp
end Mine

set_option Elab.async false
set_option linter.all false
set_option maxRecDepth 100000
set_option maxHeartbeats 4000000
/-! sum(xs, start) of a list of lists. -/
namespace Mine
open PySem PySem.Spec PyProof.Rows L2
theorem args_sumL (a b : Value) : argsOk "sum" ⟨[a, b], []⟩ := by unfold argsOk; kernel_rfl
section
variable {P : Program} {w : World} {A : Around} {E : Value → Shared → Prop} {s : Shared}
theorem add_any {a b : Addr} {xs ys : Array Value} {Q : Value → Shared → Prop} (ha : s.heap.IsList a xs) (hb : s.heap.IsList b ys) (sz : xs.size + ys.size ≤ sizeLine)
    (q : Q (.ref s.heap.objs.size) { s with heap := s.heap.push { cls := .type "list", data := .seq (xs ++ ys) } }) : wpAny (model P w) A (binaryOp .Add (.ref a) (.ref b)) Q E s := by
  obtain ⟨⟨c1, d1, t1, l1⟩, h1, k1, n1, e1⟩ := ha
  obtain ⟨⟨c2, d2, t2, l2⟩, h2, k2, n2, e2⟩ := hb
  simp only at k1 e1 k2 e2
  subst k1 e1 k2 e2
  exact concat_meets ⟨_, h1, rfl⟩ ⟨_, h2, rfl⟩ noFill_list_add seq_list_add PySem.F.slot_list_add PySem.F.entry_list_add (PySem.F.args_list_add_2 _ _) (list_addW a b xs ys n1 n2 d1 d2 l1 l2 sz) ⟨h1, h2, q⟩
theorem sum_loopL {J : Addr} {fp wr : List Addr} {n : Nat} {Pv : Nat → Value → Prop} {Sv : Nat → Heap → Prop} {R : Result → Shared → Prop} (W : Walks P w A.in1 J fp wr n Pv Sv) (ad : Nat → Addr) (arr acc : Nat → Array Value) (val : ∀ i v, Pv i v → v = .ref (ad i))
    (ac : ∀ i, i < n → acc (i + 1) = acc i ++ arr i) (fit : ∀ i, i < n → (acc i).size + (arr i).size ≤ sizeLine) (S : Addr) (out : S ∉ fp) (exi : ∀ i h, Sv i h → ∀ b ∈ wr, b < h.objs.size) :
    ∀ (left i : Nat) (s : Shared) (tot : Addr) (c : Nat), n = i + left → Sv i s.heap → s.heap.get? S = some { cls := .type "list", dict := none, data := .seq #[.ref tot] c, slots := #[] } → s.heap.IsList tot (acc i) → tot ∉ wr → tot ≠ S → (∀ j, j < n → s.heap.IsList (ad j) (arr j) ∧ ad j ∉ wr ∧ ad j ≠ S) →
      (∀ h' tk r, (∀ b o, b ∉ wr → b ≠ S → s.heap.get? b = some o → h'.get? b = some o) → (left = 0 → r = tot) → (0 < left → S < r ∧ h'.get? r = some { cls := .type "list", data := .seq (acc n) }) → R (.ok (.ret (.ref r))) { s with heap := h', toks := tk }) →
      codeAny (model P w) A (.builtin "sum.loop" ⟨[.ref J, .ref S, rawInt 2, rawInt 0], []⟩) R s := by
  have outw : S ∉ wr := fun h => out (W.sub _ h)
  intro left
  induction left with
  | zero =>
    intro i s tot c e sv hS ht _ _ _ q
    have hin : i = n := by omega
    subst hin
    refine codeAny_builtin PySem.F.entry_sum_loop ?_
    rw [Around.under_plainId PySem.F.plain_sum_loop _]
    show wpAny _ A.in1 (seqItems? (.ref S) >>= _) _ _ s
    refine wpAny_bind (wpAny_seqItems hS rfl ?_)
    show wpAny _ A.in1 (Sem.tryCatch (pyNext (.ref J)) _ >>= _) _ _ s
    refine wpAny_bind (wpAny_tryCatch (W.done s _ _ sv fun h' tk hk => ?_))
    exact wpAny_pure (q h' tk tot (fun b o hb _ z => hk b o hb z) (fun _ => rfl) (fun z => absurd z (Nat.lt_irrefl _)))
  | succ left ih =>
    intro i s tot c e sv hS ht nt nS its q
    refine codeAny_builtin PySem.F.entry_sum_loop ?_
    rw [Around.under_plainId PySem.F.plain_sum_loop _]
    show wpAny _ A.in1 (seqItems? (.ref S) >>= _) _ _ s
    refine wpAny_bind (wpAny_seqItems hS rfl ?_)
    show wpAny _ A.in1 (Sem.tryCatch (pyNext (.ref J)) _ >>= _) _ _ s
    refine wpAny_bind (wpAny_tryCatch (W.item i s _ _ (by omega) sv fun v h1 tk pv sv1 k1 => ?_))
    have := val i v pv
    subst this
    have hS1 := k1 S _ outw hS
    have keepL : ∀ {b : Addr} {xs : Array Value}, b ∉ wr → s.heap.IsList b xs → h1.IsList b xs := fun hb ⟨o, z, r⟩ => ⟨o, k1 _ _ hb z, r⟩
    obtain ⟨li, nw, nSi⟩ := its i (by omega)
    show wpAny _ A.in1 ((holding [Value.ref (ad i)] (binaryOp .Add (.ref tot) (.ref (ad i)))).attempt >>= _) _ _ _
    refine wpAny_bind (wpAny_attempt (wpAny_holding (add_any (keepL nt ht) (keepL nw li) (fit i (by omega)) ?_)))
    show wpAny _ A.in1 (updateSeq S (fun _ => #[.ref h1.objs.size]) >>= _) _ _ _
    have hS2 := Heap.get?_push_of_some { cls := .type "list", data := .seq (acc i ++ arr i) } hS1
    have lS := Heap.lt_size hS1
    refine wpAny_bind ?_
    refine wpAny_updateSeq hS2 rfl ?_
    have hS3 := Heap.get?_update_self (Obj.mapSeq fun _ => #[Value.ref h1.objs.size]) hS2 rfl
    refine wpAny_bind (wpAny_letGo ?_)
    refine wpAny_bind ?_
    have other : ∀ {b : Addr} {o : Obj}, b ≠ S → h1.get? b = some o → ((((h1.push { cls := .type "list", data := .seq (acc i ++ arr i) }).update S (Obj.mapSeq fun _ => #[Value.ref h1.objs.size])).update S (Obj.mapSeq fun _ => #[Value.ref h1.objs.size])).get? b = some o) := fun hb z =>
      (Heap.get?_update_other _ _ (Ne.symm hb)).trans ((Heap.get?_update_other _ _ (Ne.symm hb)).trans (Heap.get?_push_of_some _ z))
    have nr : h1.objs.size ∉ wr := fun z => Nat.lt_irrefl _ (exi _ _ sv1 _ z)
    have nrS : h1.objs.size ≠ S := Nat.ne_of_gt lS
    have new : ((((h1.push { cls := .type "list", data := .seq (acc i ++ arr i) }).update S (Obj.mapSeq fun _ => #[Value.ref h1.objs.size])).update S (Obj.mapSeq fun _ => #[Value.ref h1.objs.size])).get? h1.objs.size = some { cls := .type "list", data := .seq (acc (i + 1)) }) := by
      rw [ac i (by omega)]
      exact (Heap.get?_update_other _ _ (Ne.symm nrS)).trans ((Heap.get?_update_other _ _ (Ne.symm nrS)).trans (Heap.get?_push_size _ rfl))
    refine wpAny_updateSeq hS3 rfl (wpAny_pure ⟨plainId_quiet PySem.F.plain_sum_loop _, ih (i + 1) _ h1.objs.size _ (by omega) (W.frame _ _ _ sv1 fun b hb o z => other (fun y => out (y ▸ hb)) z) (Heap.get?_update_self _ hS3 rfl) ⟨_, new, rfl, _, rfl⟩ nr nrS (fun j hj => ?_) fun h' tk' r kp z0 z1 => ?_⟩)
    · obtain ⟨⟨o, z, y⟩, a1, a2⟩ := its j hj
      exact ⟨⟨o, other a2 (k1 _ _ a1 z), y⟩, a1, a2⟩
    · refine q h' tk' r (fun b o hb hbS z => kp b o hb hbS (other hbS (k1 _ _ hb z))) (fun z => nomatch z) fun _ => ?_
      cases left with
      | zero =>
        have := z0 rfl
        subst this
        have e' : i + 1 = n := by omega
        rw [← e']
        exact ⟨lS, kp _ _ nr nrS new⟩
      | succ left => exact z1 (Nat.succ_pos _)
theorem call_sumL {a b : Addr} {its : Array Value} (n : Nat) (ad : Nat → Addr) (arr acc : Nat → Array Value) {Q : Value → Shared → Prop} (hh : A.handled = none) (ha : s.heap.IsList a its) (hn : its.size = n) (hv : ∀ (i : Nat) (v : Value), its[i]? = some v → v = .ref (ad i)) (hb : s.heap.IsList b (acc 0))
    (ac : ∀ i, i < n → acc (i + 1) = acc i ++ arr i) (fit : ∀ i, i < n → (acc i).size + (arr i).size ≤ sizeLine) (hl : ∀ j, j < n → s.heap.IsList (ad j) (arr j))
    (q0 : ∀ h' tk, n = 0 → (∀ b o, s.heap.get? b = some o → h'.get? b = some o) → Q (.ref b) { s with heap := h', toks := tk })
    (q1 : ∀ h' tk r, (∀ b o, s.heap.get? b = some o → h'.get? b = some o) → s.heap.objs.size ≤ r → h'.get? r = some { cls := .type "list", data := .seq (acc n) } → Q (.ref r) { s with heap := h', toks := tk }) :
    wpAny (model P w) A (call (.builtin "sum") [.ref a, .ref b]) Q E s := by
  refine call_function_tree PySem.F.kind_sum PySem.F.plain_sum PySem.F.entry_sum (args_sumL _ _) ?_
  unfold Builtin.«sum»
  simp only [List.length_cons, List.length_nil]
  rw [if_neg (by decide)]
  refine wpAny_bind (wpAny_of_eq (show Builtin.Builtins.bindParams "sum" ["start"] 0 ⟨[Value.ref b], []⟩ = pure [some (Value.ref b)] from rfl) ?_)
  refine wpAny_bind (wpAny_pyIter_list ha ?_)
  refine wpAny_bind (wpAny_pure ?_)
  simp only [List.forIn_cons, List.forIn_nil]
  obtain ⟨ob, eb, cb, mb, db⟩ := hb
  have eb1 := Heap.get?_push_of_some { cls := .type "list_iterator", data := .fields #[.ref a, .int 0 0] } eb
  refine wpAny_bind (wpAny_bind (wpAny_bind (wpAny_isInstance (T := "list") (b := false) ⟨_, eb1, cb⟩ PySem.F.sub_list_str ?_)))
  simp only [Bool.false_eq_true, if_false]
  refine wpAny_pure (wpAny_bind (wpAny_bind (wpAny_isInstance (T := "list") (b := false) ⟨_, eb1, cb⟩ PySem.F.sub_list_bytes ?_)))
  simp only [Bool.false_eq_true, if_false]
  refine wpAny_pure (wpAny_bind (wpAny_bind (wpAny_isInstance (T := "list") (b := false) ⟨_, eb1, cb⟩ PySem.F.sub_list_bytearray ?_)))
  simp only [Bool.false_eq_true, if_false]
  refine wpAny_pure (wpAny_pure ?_)
  refine wpAny_bind (wpAny_newObj_type ?_)
  obtain ⟨oa, ea, ra⟩ := id ha
  have la := Heap.lt_size ea
  have lb := Heap.lt_size eb
  have z1 : (s.heap.push { cls := .type "list_iterator", data := .fields #[.ref a, .int 0 0] }).objs.size = s.heap.objs.size + 1 := Heap.size_push ..
  have old : ∀ {c : Addr} {o : Obj}, s.heap.get? c = some o → ((s.heap.push { cls := .type "list_iterator", data := .fields #[.ref a, .int 0 0] }).push { cls := .type "list", data := .seq #[.ref b] }).get? c = some o := fun z => Heap.get?_push_of_some _ (Heap.get?_push_of_some _ z)
  have ltS : ∀ {c : Addr} {o : Obj}, s.heap.get? c = some o → c ∉ [s.heap.objs.size] ∧ c ≠ s.heap.objs.size + 1 := fun z => by
    have := Heap.lt_size z
    refine ⟨fun y => ?_, Nat.ne_of_lt (Nat.lt_succ_of_lt this)⟩
    rw [List.mem_singleton.mp y] at this
    exact Nat.lt_irrefl _ this
  refine wpAny_pure ⟨plainId_quiet PySem.F.plain_sum_loop _, ?_⟩
  have W := Walks.list (prog := P) (w := w) (A := A.in1) (by simp [hh]) s.heap.objs.size a (Nat.ne_of_lt la) its
  rw [hn] at W
  have eS : ((s.heap.push { cls := .type "list_iterator", data := .fields #[.ref a, .int 0 0] }).push { cls := .type "list", data := .seq #[.ref b] }).get? (s.heap.push { cls := .type "list_iterator", data := .fields #[.ref a, .int 0 0] }).objs.size = some { cls := .type "list", dict := none, data := .seq #[.ref b] 0, slots := #[] } := Heap.get?_push_size _ rfl
  have eI : ((s.heap.push { cls := .type "list_iterator", data := .fields #[.ref a, .int 0 0] }).push { cls := .type "list", data := .seq #[.ref b] }).get? s.heap.objs.size = some { cls := .type "list_iterator", data := .fields #[.ref a, .int 0 0] } := Heap.get?_push_of_some _ (Heap.get?_push_size _ rfl)
  generalize (s.heap.push { cls := .type "list_iterator", data := .fields #[.ref a, .int 0 0] }).objs.size = S at eS z1
  generalize hG : ((s.heap.push { cls := .type "list_iterator", data := .fields #[.ref a, .int 0 0] }).push { cls := .type "list", data := .seq #[.ref b] }) = G at old eS eI
  refine sum_loopL W ad arr acc hv ac fit S ?_ ?_ n 0 { s with heap := G } b 0 (by omega) ⟨⟨_, eI, rfl, rfl⟩, ⟨_, old ea, ra⟩⟩ eS ⟨_, old eb, cb, mb, db⟩ (ltS eb).1 (by rw [z1]; exact (ltS eb).2) (fun j hj => ?_) fun h' tk r kp y0 y1 => ?_
  · intro z
    simp only [List.mem_cons, List.not_mem_nil, or_false] at z
    rcases z with z | z
    · rw [z1] at z
      exact absurd z (Nat.succ_ne_self _)
    · rw [z1] at z
      exact absurd z.symm (Nat.ne_of_lt (Nat.lt_succ_of_lt la))
  · rintro i h ⟨⟨o, e, _⟩, _⟩ c hc
    rw [List.mem_singleton.mp hc]
    exact Heap.lt_size e
  · obtain ⟨o, z, y⟩ := hl j hj
    exact ⟨⟨o, old z, y⟩, (ltS z).1, by rw [z1]; exact (ltS z).2⟩
  · have keep : ∀ c o, s.heap.get? c = some o → h'.get? c = some o := fun c o z => kp c o (ltS z).1 (by rw [z1]; exact (ltS z).2) (old z)
    cases n with
    | zero =>
      have := y0 rfl
      subst this
      exact q0 h' tk rfl keep
    | succ n =>
      obtain ⟨l1, l2⟩ := y1 (Nat.succ_pos _)
      refine q1 h' tk r keep ?_ l2
      rw [z1] at l1
      exact Nat.le_of_lt (Nat.lt_of_succ_lt l1)
end
section
variable {X : Cx}
theorem paired_get {α β : Type} {R : α → β → Prop} : ∀ {as : List α} {bs : List β} {i : Nat} {a : α}, Paired R as bs → as[i]? = some a → ∃ b, bs[i]? = some b ∧ R a b
  | _, _, 0, a, .cons h _, e => ⟨_, rfl, by cases e; exact h⟩
  | _, _, i + 1, a, .cons _ r, e => paired_get (i := i) r e
theorem take_flat {α : Type} : ∀ (ls : List (List α)) (i : Nat), i < ls.length → (ls.take (i + 1)).flatten = (ls.take i).flatten ++ ls.getD i []
  | [], _, h => absurd h (Nat.not_lt_zero _)
  | l :: ls, 0, _ => by simp
  | l :: ls, i + 1, h => by
    have := take_flat ls i (Nat.lt_of_succ_lt_succ h)
    show (l :: ls.take (i + 1)).flatten = (l :: ls.take i).flatten ++ ls.getD i []
    rw [List.flatten_cons, List.flatten_cons, this, List.append_assoc]
/-- the values of some tracked lists -/
theorem lists_vals {pins : List (Addr × Obj)} {σ : L2.St} {H : Hp} {s : Shared} (I : L2.Inv X pins σ H s) : ∀ {ps : List Addr} {xss : List (List V)}, Paired (fun p xs => H p = some (.lst xs)) ps xss → ∃ vss : List (List Value), Paired (fun p vs => s.heap.IsList p (List.toArray vs)) ps vss ∧ Paired Vals xss vss
  | _, _, .nil => ⟨[], .nil, .nil⟩
  | _, _, .cons h r => by
    obtain ⟨vss, a, b⟩ := lists_vals I r
    obtain ⟨its, rv, pl, _⟩ := I.list (SqL.of h)
    exact ⟨its :: vss, .cons pl.isList a, .cons rv b⟩
theorem vals_flat : ∀ {xss : List (List V)} {vss : List (List Value)}, Paired Vals xss vss → Vals xss.flatten vss.flatten
  | _, _, .nil => .nil
  | _, _, .cons h r => by
    rw [List.flatten_cons, List.flatten_cons]
    exact h.append (vals_flat r)
/-- sum(xs, start), xs a list of tracked lists, start an empty one -/
def rSumL (K : PySem.W.Frag) : List V → Hp → VK → Prop := fun vs H Q => ∃ (a b : Addr) (ps : List Addr) (xss : List (List V)), vs = [.ref a, .ref b] ∧ SqL K H a (ps.map V.ref) ∧ H b = some (.lst []) ∧ Paired (fun p xs => H p = some (.lst xs)) ps xss ∧ xss.flatten.length ≤ sizeLine ∧
  (ps = [] → Q (.ref b) H) ∧ ∀ r, H r = none → Q (.ref r) (upd H r (.lst xss.flatten))
theorem cr_sumL (hc : X.calm = true) : CallR X (.builtin "sum") (rSumL X.K) := by
  intro pins s σ H vs us Q I r h
  obtain ⟨a, b, ps, xss, rfl, ha, hb, hp, fit, q0, q1⟩ := h
  obtain ⟨u1, u2, rfl, ra, rb⟩ := vals2 r
  cases ra
  cases rb
  obtain ⟨its, rv, pa, _⟩ := I.list ha
  obtain ⟨itb, rvb, pb, _⟩ := I.list (SqL.of hb)
  cases rvb
  obtain ⟨vss, pl, pv⟩ := lists_vals I hp
  have l1 := rv.length
  rw [List.length_map] at l1
  have l2 := pl.length
  have vf := vals_flat pv
  have lf := vf.length
  refine call_sumL (P := X.prog) (w := X.w) (A := X.A) ps.length (fun i => ps.getD i 0) (fun i => (vss.getD i []).toArray) (fun i => (vss.take i).flatten.toArray) (I.ok.hd hc) pa.isList (by rw [List.size_toArray]; exact l1.symm) (fun i v hv => ?_) (by simpa using pb.isList) (fun i hi => ?_) (fun i hi => ?_) (fun j hj => ?_) (fun h' tk hn kp => ?_) fun h' tk r' kp big hr => ?_
  · rw [List.getElem?_toArray] at hv
    have il : i < ps.length := by
      rw [l1]
      exact (List.getElem?_eq_some_iff.mp hv).1
    obtain ⟨u, hu, ru⟩ := rv.get (i := i) (x := .ref ps[i]) (by rw [List.getElem?_map, List.getElem?_eq_getElem il]; rfl)
    rw [hv] at hu
    cases hu
    have : v = Value.ref ps[i] := ru
    rw [this, List.getD_eq_getElem?_getD, List.getElem?_eq_getElem il]
    rfl
  · have il : i < vss.length := by omega
    rw [take_flat vss i il]
    simp
  · have il : i < vss.length := by omega
    have e : vss.flatten = (vss.take (i + 1)).flatten ++ (vss.drop (i + 1)).flatten := by rw [← List.flatten_append, List.take_append_drop]
    have e2 := take_flat vss i il
    have n1 := congrArg List.length e
    rw [e2, List.length_append, List.length_append] at n1
    rw [List.size_toArray, List.size_toArray]
    omega
  · obtain ⟨vs, e, r⟩ := paired_get pl (List.getElem?_eq_getElem hj)
    rw [List.getD_eq_getElem?_getD, List.getElem?_eq_getElem hj, List.getD_eq_getElem?_getD, e]
    exact r
  · exact ⟨.ref b, H, I.kept kp, rfl, q0 (List.length_eq_zero_iff.mp hn)⟩
  · have e : (vss.take ps.length).flatten = vss.flatten := by rw [List.take_of_length_le (by omega)]
    rw [e] at hr
    exact ⟨.ref r', _, I.laid (t' := tk) kp big (show ObjOk X.prog X.w _ _ _ (.lst xss.flatten) from ⟨fit, vss.flatten, 0, vf, hr⟩), rfl, q1 r' (I.hok.fresh big)⟩
end
end Mine

set_option Elab.async false
set_option linter.all false
set_option maxRecDepth 100000
set_option maxHeartbeats 4000000
/-! a != b of instances whose class has == of its own and != of object. -/
namespace Mine
open PySem PySem.Spec PyProof.Rows L2 PySem.W Builtin
section
variable {prog : Program} {w : World} {A : Around} {E : Value → Shared → Prop} {s : Shared} {K : PySem.W.Frag} {x C f : Addr} {ox : Obj} {od : Option Obj} {b : Value}
theorem ifBoundB {M : Model} {name : Str} {id T : String} {args : List Value} {Q : Option Value → Shared → Prop} (X : K.In s.heap) (I : InstAt s.heap x ox C od) (hs : findIn K (.ref C) name = some (some (.builtin id))) (S : Slot T name id)
    (h : wpAny M A (call (.builtin id) (.ref x :: args)) (fun v => Q (some v)) E s) : wpAny M A (callSpecialIfBound? (.ref x) name args) Q E s := by
  simp only [callSpecialIfBound?, bindSpecialIfBound?]
  refine wpAny_holding (wpAny_bind (wpAny_bind (wpAny_bind (I.type.here ((looks_findIn X hs).here ?_)))))
  refine wpAny_bind (wpAny_askSetting (wpAny_ite ?_))
  have fin : wpAny M A (call (.builtin id) ([.ref x] ++ args) >>= fun v => pure (some v)) Q E s := wpAny_bind (wpAny_mono h (fun v s' h' => wpAny_pure h') fun _ _ h' => h')
  simp only [S.bind]
  split
  · exact wpAny_bind (wpAny_pure (wpAny_pure fin))
  · exact wpAny_tryCatch (wpAny_bind (wpAny_pure (wpAny_pure fin)))
theorem ne_call {Q : Value → Shared → Prop} (hu : A.units + 1 < cLine) (X : K.In s.heap) (I : InstAt s.heap x ox C od) (hm : mroIn K C (.type "object") = some true) (he : findIn K (.ref C) "__eq__" = some (some (.ref f))) (hf : isFn K (.ref f) = true)
    (h : wpAny (model prog w) A.in1 (call (.ref f) [.ref x, b]) (fun v s' => ∃ r, v = .bool r ∧ Q (.bool (!r)) s') E s) : wpAny (model prog w) A (call (.builtin "object.__ne__") [.ref x, b]) Q E s := by
  refine wpAny_call (codeAny_call_builtin PySem.F.slot_range_iterator_ne.plain PySem.F.cmpEntry_ne ?_)
  obtain ⟨hh, g, dr, t, os⟩ := s
  have L0 := I.type (M := model prog w)
  have L1 := looks_mroIn (M := model prog w) X hm
  simp only [checkBuiltinCall, PySem.F.cmpKind_ne, PySem.F.cmpSplit_ne]
  refine wpAny_bind ?_
  unfold isInstance
  have hu1 : A.in1.units < cLine := hu
  repeat (first
    | with_reducible refine wpAny_cRoomFor hu1 ?_
    | (with_reducible refine wpAny_bind (m := callSpecialIfBound? (.ref x) (Str.ofString "__eq__") [b]) ?_
       refine ifBound_K X I he hf (wpAny_mono h (fun v s' hv => ?_) fun _ _ e => e)
       obtain ⟨r, rfl, hq⟩ := hv
       refine wpAny_bind (m := truthy (.bool r)) (wpAny_truthy_bool ?_)
       exact wpAny_pure hq)
    | lk)
theorem cmpN {h₀ : Heap} {L : Addr} {m : Str → Option Value} {tb : Value} {Q : Value → Shared → Prop} (hu : A.units + 1 < cLine) (F : Fr h₀ L s.heap m) (X₀ : K.In h₀) (I : InstAt s.heap x ox C od) (hb : Looks (model prog w) s.heap (typeOf b) tb) (hn : notFirst K C tb = true)
    (hne : findIn K (.ref C) "__ne__" = some (some (.builtin "object.__ne__"))) (hm : mroIn K C (.type "object") = some true) (he : findIn K (.ref C) "__eq__" = some (some (.ref f))) (hf : isFn K (.ref f) = true)
    (h : wpAny (model prog w) A.in1 (call (.ref f) [.ref x, b]) (fun v s' => ∃ r, v = .bool r ∧ Q (.bool (!r)) s') E s) : wpAny (model prog w) A (richCompare .NotEq (.ref x) b) Q E s := by
  have X := X₀.keeps F.keep
  have one : wpAny (model prog w) A (tryCompare (.ref x) (cmpInfo .NotEq).2.1 b) (fun r s' => ∃ v, r = some v ∧ Q v s') E s := by
    unfold tryCompare
    refine wpAny_bind (ifBoundB X I hne PySem.F.slot_range_iterator_ne (ne_call hu X I hm he hf (wpAny_mono h (fun v s' hv => ?_) fun _ _ e => e)))
    obtain ⟨r, rfl, hq⟩ := hv
    exact ⟨r, rfl, wpAny_pure ⟨_, rfl, hq⟩⟩
  unfold richCompare
  simp only [oneThing_ref]
  refine wpAny_holding (wpAny_bind (wpAny_cRoomFor (by omega) ?_))
  refine wpAny_bind (I.type.here (wpAny_bind (hb.here ?_)))
  split
  · rename_i q
    have e : subIn K tb (.ref C) = some false := by
      rcases Bool.or_eq_true_iff.mp hn with e | e
      · rw [beq_iff_eq.mp e] at q; simp at q
      · exact beq_iff_eq.mp e
    refine wpAny_bind ((looks_subIn X e).here ?_)
    simp only [Bool.false_eq_true, if_false]
    refine wpAny_bind (wpAny_mono one (fun r s' z => ?_) fun _ _ e => e)
    obtain ⟨v, rfl, hq⟩ := z
    exact wpAny_pure hq
  · refine wpAny_bind (wpAny_pure ?_)
    simp only [Bool.false_eq_true, if_false]
    refine wpAny_bind (wpAny_mono one (fun r s' z => ?_) fun _ _ e => e)
    obtain ⟨v, rfl, hq⟩ := z
    exact wpAny_pure hq
end
section
variable {X : Cx} {n : Nat} {C f : Addr} {fd : FuncData} {ps : List Str} {R : Addr → Addr → Hp → Prop}
def rNeIns (C : Addr) (R : Addr → Addr → Hp → Prop) : R2 := fun x y H Q => DIns C R x y H ∧ ∀ H', Ext H H' → Q (.bl false) H'
theorem op_neIns (F : FnOk X.prog X.w X.K X.mg X.base CX0 n f fd ps (spEq R)) (hs : findIn X.K (.ref C) "__eq__" = some (some (.ref f))) (hf : isFn X.K (.ref f) = true) (hne : findIn X.K (.ref C) "__ne__" = some (some (.builtin "object.__ne__"))) (hm : mroIn X.K C (.type "object") = some true)
    (hb : Binds X.K fd ps []) (hr : Room (n + 1) X.A) : OpR X (compareOp .NotEq) (rNeIns C R) := by
  intro pins s σ H x y v u Q I rx ry hq
  obtain ⟨⟨a, b, dx, dy, fs, gs, rfl, rfl, ha, hb', hr'⟩, q⟩ := hq
  cases rx
  cases ry
  obtain ⟨mA, J, _⟩ := ins_get I.hok ha
  obtain ⟨mB, J', _⟩ := ins_get I.hok hb'
  obtain ⟨od, J, _⟩ := J.look
  obtain ⟨od', J', _⟩ := J'.look
  obtain ⟨m, hF⟩ := I.fr
  have hr1 : Room n X.A.in1 := Room.in1 hr
  show wpAny (model X.prog X.w) X.A (richCompare .NotEq _ _) (EP X pins σ Q) X.xe s
  refine cmpN (tb := .ref C) (by have := hr.un; omega) hF I.ok.mod.kin J J'.type (by simp [PySem.W.notFirst]) hne hm hs hf ?_
  have hsp : spEq R [.ref a, .ref b] H (fun v H' => v = .bl true ∧ Ext H H') E0 := ⟨a, b, rfl, hr', fun H' e => ⟨rfl, e⟩⟩
  have e0 : Env0 X.prog X.w X.K X.mg X.base X.A.in1 X.stack s H := by
    have e := I.env0
    exact ⟨e.frames, e.mod, e.bs, e.bsz, e.funs, e.frf, e.hok, e.bare⟩
  have hl := F.len _ _ _ _ hsp
  have r2 : Vals [V.ref a, V.ref b] [Value.ref a, Value.ref b] := .cons rfl (.cons rfl .nil)
  refine wpAny_call (codeAny_mono (F.run X.A.in1 X.stack s H ⟨[.ref a, .ref b], []⟩ [.ref a, .ref b] [.ref a, .ref b] _ E0 hr1 e0 (by
    have := hb s [.ref a, .ref b] I.kIn (by simpa using hl)
    simpa using this) r2 hsp) fun r s' hq => ?_)
  cases r with
  | error e => exact pass0 pins σ H s e s' I hq
  | ok fl =>
    cases fl with
    | ret w =>
      obtain ⟨z, H', I', rz, ez, ex⟩ := I.after hq
      subst ez
      cases rz
      exact ⟨true, rfl, .bl false, H', I', rfl, q H' ex⟩
    | next => exact False.elim hq
    | brk => exact False.elim hq
    | cont => exact False.elim hq
end
end Mine

set_option Elab.async false
set_option linter.all false
set_option maxRecDepth 100000
set_option maxHeartbeats 4000000
/-! o.m(k = ..) of a method with one parameter. -/
namespace Mine
open PySem PySem.Spec PyProof.Rows L2
section
variable {X : Cx} {k : Nat} {f C : Addr} {fd : FuncData} {ps : List Str} {sp : L2.Sp} {m k1 : Str} {pos apos : Pos} {o : Expr} {kws : List Keyword} {ta : TE} {tk : TA}
def tMethK1 (C : Addr) (m : Str) (sp : L2.Sp) (ta : TE) (tk : TA) : TE := fun σ H Q => ta σ H fun x H1 => ∃ a dx fs, x = .ref a ∧ H1 a = some (.ins C dx fs) ∧ fs.lookup m = none ∧ tk σ H1 fun zs H2 => ∃ u, zs = [u] ∧ sp [x, u] H2 Q E0
theorem pe_methK1 {pl : Sem Bool} (he : PE X o ta) (c : Cls X.K C) (hm : Meth X.K C m f) (F : FnOk X.prog X.w X.K X.mg X.base CX0 k f fd ps sp) (hr : Room k X.A) (hps : ps.length = 2)
    (hb : ∀ (s : Shared) (a u : Value), BindsTo s fd ⟨[a], [(k1, u)]⟩ (ps.zip [a, u])) (hkw : PK X kws tk)
    (hall : (backToKw pos (keywordEach kws X.env)).all (·.1.isSome) = true := by rfl) (hks : (backToKw pos (keywordEach kws X.env)).filterMap (·.1) = [k1] := by rfl)
    (hpl : ((backTo pos (starEach [] X.env)).any (·.1) || (backToKw pos (keywordEach kws X.env)).any (·.1.isNone)) = false := by rfl)
    (ht : eval (.Call (.Attribute o m apos) [] kws pos) X.env = (do
      let ov ← eval o X.env
      standAt apos.atName
      let (f, first) ← holding [ov] (getMethod ov m pl)
      callWith pos f first (backTo pos (starEach [] X.env)) (backToKw pos (keywordEach kws X.env))) := by rfl) :
    PE X (.Call (.Attribute o m apos) [] kws pos) (tMethK1 C m sp ta tk) := by
  refine ⟨fun pins s σ H Q I h => ?_⟩
  refine PySem.W.methodCall_KW (pl := pl) (thn (he.run pins s σ H _ I h) fun u s1 ⟨x, H1, I1, rx, a, dx, fs, ex, ea, l, q⟩ => ?_) ht
  subst ex
  obtain rfl : u = Value.ref a := rx
  refine getmeth_ok I1 ea c hm l ?_
  refine PySem.W.callWith_KW0 (first := [.ref a]) (h₀ := X.base) I.ok.mod.kin hm.kp hall ?_ hpl
  refine thn (hkw.run pos pins s1 σ H1 _ I1 q) fun ws s2 ⟨zs, H2, I2, rz, uu, ez, q2⟩ => ⟨I2.kIn, ?_⟩
  subst ez
  obtain ⟨w1, ew, r1⟩ := vals1 rz
  subst ew
  rw [hks]
  show wpAny _ _ (call (.ref f) [.ref a] [(k1, w1)]) _ _ _
  refine wpAny_call (codeAny_mono (F.run X.A X.stack s2 H2 ⟨[.ref a], [(k1, w1)]⟩ [.ref a, w1] [.ref a, uu] Q E0 hr I2.env0 (hb s2 (.ref a) w1) (.cons rfl (.cons r1 .nil)) q2) fun r s' hq => ?_)
  cases r with
  | error e => exact pass0 pins σ H2 s2 e s' I2 hq
  | ok fl =>
    cases fl with
    | ret u => exact I2.after hq
    | next => exact False.elim hq
    | brk => exact False.elim hq
    | cont => exact False.elim hq
end
end Mine

set_option Elab.async false
set_option linter.all false
set_option maxRecDepth 100000
set_option maxHeartbeats 4000000
/-! tuple(zip(xs, ys)) of two lists. -/
namespace Mine
open PySem PySem.Spec PyProof.Rows L2
theorem zip_nolen : typeLookup (.type "zip") "__len__" = pure none := by rw [typeLookup_type, builtinLookup_eq_fast]; kernel_rfl
theorem zip_nohint : typeLookup (.type "zip") "__length_hint__" = pure none := by rw [typeLookup_type, builtinLookup_eq_fast]; kernel_rfl
/-- what a zip has given so far -/
structure Gave (h0 h : Heap) (n0 : Nat) (ex : List Addr) (xs ys : Array Value) (ts : List Addr) : Prop where
  prs : ∀ (j : Nat) (t : Addr), ts[j]? = some t → ∃ x y, xs[j]? = some x ∧ ys[j]? = some y ∧ IsPair h t x y
  low : ∀ t ∈ ts, n0 ≤ t ∧ t < h.objs.size ∧ t ∉ ex
  nd : ts.Nodup
  kp : ∀ c o, c ∉ ex → h0.get? c = some o → h.get? c = some o
theorem Gave.keep {h0 h h' : Heap} {n0 : Nat} {ex : List Addr} {xs ys : Array Value} {ts : List Addr} (g : Gave h0 h n0 ex xs ys ts) (k : ∀ c o, c ∉ ex → h.get? c = some o → h'.get? c = some o) : Gave h0 h' n0 ex xs ys ts where
  prs j t e := by
    obtain ⟨x, y, a, b, c⟩ := g.prs j t e
    exact ⟨x, y, a, b, k _ _ (g.low t (List.mem_of_getElem? e)).2.2 c⟩
  low t ht := by
    obtain ⟨j, e⟩ := List.mem_iff_getElem?.mp ht
    obtain ⟨x, y, a, b, c⟩ := g.prs j t e
    exact ⟨(g.low t ht).1, Heap.lt_size (k _ _ (g.low t ht).2.2 c), (g.low t ht).2.2⟩
  nd := g.nd
  kp c o hc e := k c o hc (g.kp c o hc e)
theorem Gave.snoc {h0 h h' : Heap} {n0 : Nat} {ex : List Addr} {xs ys : Array Value} {ts : List Addr} {x y : Value} {t : Addr} (g : Gave h0 h n0 ex xs ys ts) (k : ∀ c o, c ∉ ex → h.get? c = some o → h'.get? c = some o) (hx : xs[ts.length]? = some x) (hy : ys[ts.length]? = some y) (ht : IsPair h' t x y) (low : n0 ≤ t) (out : t ∉ ex) (new : h.objs.size ≤ t) : Gave h0 h' n0 ex xs ys (ts ++ [t]) where
  prs j u e := by
    rw [List.getElem?_append] at e
    split at e
    · exact (g.keep k).prs j u e
    · rename_i h1
      have : j - ts.length = 0 := by
        cases e2 : j - ts.length with
        | zero => rfl
        | succ m => rw [e2] at e; cases e
      rw [this] at e
      cases e
      have ej : j = ts.length := by omega
      subst ej
      exact ⟨x, y, hx, hy, ht⟩
  low u hu := by
    rcases List.mem_append.mp hu with hu | hu
    · exact (g.keep k).low u hu
    · rw [List.mem_singleton.mp hu]
      exact ⟨low, Heap.lt_size ht, out⟩
  nd := by
    rw [List.nodup_append]
    refine ⟨g.nd, by simp, fun a ha b hb e => ?_⟩
    rw [List.mem_singleton.mp hb] at e
    subst e
    exact Nat.lt_irrefl _ (Nat.lt_of_lt_of_le (g.low _ ha).2.1 new)
  kp := (g.keep k).kp
section
variable {prog : Program} {w : World} {A : Around} {E : Value → Shared → Prop} {R : Result → Shared → Prop}
theorem extend_zip {z TI TO i1 i2 l1 l2 S : Addr} {xs ys : Array Value} {h0 : Heap} {n0 : Nat} (D : ZipApart z TI TO i1 i2 l1 l2) (hh : A.handled = none) (same : xs.size = ys.size) (fit : xs.size ≤ sizeLine) (hS : S ∉ [z, TI, TO, i1, i2, l1, l2]) (res : Value) :
    ∀ (k i : Nat) (s : Shared) (ts : List Addr) (c : Nat), xs.size - i = k → i ≤ xs.size → ts.length = i → n0 ≤ s.heap.objs.size → Gave h0 s.heap n0 [z, TO, i1, i2, S] xs ys ts →
      (IsZip s.heap z TI TO .none ∨ ∃ T f oT, IsZipHeld s.heap z TI TO T f ∧ T ∉ [z, TO, i1, i2, S] ∧ s.heap.get? T = some oT) → IsPair s.heap TI (.ref i1) (.ref i2) → (∃ a b, IsPair s.heap TO a b) → s.heap.IsListIter i1 l1 i → s.heap.IsListIter i2 l2 i → s.heap.IsList l1 xs → s.heap.IsList l2 ys →
      s.heap.get? S = some { cls := .type "list", dict := none, data := .seq (ts.map Value.ref).toArray c, slots := #[] } →
      (∀ (h' : Heap) (us : List Addr) (c' : Nat), us.length = xs.size → Gave h0 h' n0 [z, TO, i1, i2, S] xs ys us → h'.get? S = some { cls := .type "list", dict := none, data := .seq (us.map Value.ref).toArray c', slots := #[] } → R (.ok (.ret res)) { s with heap := h' }) →
      codeAny (model prog w) A (.builtin "list.extend.loop" ⟨[.ref S, .ref z, res], []⟩) R s := by
  simp only [List.mem_cons, List.not_mem_nil, or_false, not_or] at hS
  obtain ⟨hS1, hS2, hS3, hS4, hS5, hS6, hS7⟩ := hS
  have off : ∀ {h h' : Heap}, (∀ c o, c ≠ z → c ≠ TO → c ≠ i1 → c ≠ i2 → h.get? c = some o → h'.get? c = some o) → ∀ c o, c ∉ [z, TO, i1, i2, S] → h.get? c = some o → h'.get? c = some o := fun kp c o hc e => by
    simp only [List.mem_cons, List.not_mem_nil, or_false, not_or] at hc
    exact kp c o hc.1 hc.2.1 hc.2.2.1 hc.2.2.2.1 e
  intro k
  induction k with
  | zero =>
    intro i s ts c hk hi hl hn g hz hTI hTO h1 h2 hl1 hl2 eS hR
    have hin : i = xs.size := by omega
    obtain ⟨a, b, hTO⟩ := hTO
    have end1 : xs[i]? = none ∨ ys[i]? = none := .inl (Array.getElem?_eq_none (by omega))
    have fin : ∀ h', (∀ c o, c ≠ z → c ≠ TO → c ≠ i1 → c ≠ i2 → s.heap.get? c = some o → h'.get? c = some o) → R (.ok (.ret res)) { s with heap := h' } := fun h' kp =>
      hR h' ts c (by omega) (g.keep (off kp)) (kp _ _ hS1 hS3 hS4 hS5 eS)
    refine codeAny_builtin F.entry_extend_loop ?_
    rw [Around.under_plainId F.plain_extend_loop _]
    show wpAny _ A.in1 (pyNext (.ref z) >>= _) _ _ s
    rcases hz with hz | ⟨T, f, oT, hz, _, hT⟩
    · exact wpAny_bind (wpAny_pyNext_zip_end hh D hz hTI hTO h1 h2 hl1 hl2 end1 fun h' kp => wpAny_pure (fin h' kp))
    · exact wpAny_bind (wpAny_pyNext_zip_end_held hh D hz hT hTI h1 h2 hl1 hl2 end1 fun h' kp => wpAny_pure (fin h' fun c o c1 c2 c3 c4 e => kp c o c1 c3 c4 e))
  | succ k ih =>
    intro i s ts c hk hi hl hn g hz hTI hTO h1 h2 hl1 hl2 eS hR
    have hlt : i < xs.size := by omega
    obtain ⟨a, b, hTO⟩ := hTO
    obtain ⟨x, hx⟩ : ∃ x, xs[i]? = some x := ⟨_, Array.getElem?_eq_getElem hlt⟩
    obtain ⟨y, hy⟩ : ∃ y, ys[i]? = some y := ⟨_, Array.getElem?_eq_getElem (by omega)⟩
    refine codeAny_builtin F.entry_extend_loop ?_
    rw [Around.under_plainId F.plain_extend_loop _]
    show wpAny _ A.in1 (pyNext (.ref z) >>= _) _ _ s
    have nS : S < s.heap.objs.size := Heap.lt_size eS
    have nz : z < s.heap.objs.size := by rcases hz with hz | ⟨_, _, _, hz, _, _⟩ <;> exact Heap.lt_size hz
    have nTO : TO < s.heap.objs.size := Heap.lt_size hTO
    have ni1 : i1 < s.heap.objs.size := by obtain ⟨_, e, _⟩ := id h1; exact Heap.lt_size e
    have ni2 : i2 < s.heap.objs.size := by obtain ⟨_, e, _⟩ := id h2; exact Heap.lt_size e
    have tS : s.heap.objs.size ≠ S := Nat.ne_of_gt nS
    have tout : s.heap.objs.size ∉ [z, TO, i1, i2, S] := by
      simp only [List.mem_cons, List.not_mem_nil, or_false, not_or]
      exact ⟨Nat.ne_of_gt nz, Nat.ne_of_gt nTO, Nat.ne_of_gt ni1, Nat.ne_of_gt ni2, tS⟩
    have ea : ((ts ++ [s.heap.objs.size]).map Value.ref).toArray = (ts.map Value.ref).toArray.push (.ref s.heap.objs.size) := by simp
    have sa : (ts.map Value.ref).toArray.size = i := by simp [hl]
    rcases hz with hz | ⟨T, f, oT, hz, nT, hT⟩
    · refine wpAny_bind (wpAny_pyNext_zip_item D hz hTI hTO h1 h2 hl1 hl2 hx hy fun h' z' TO' h1' h2' hp hsz kp => ?_)
      have hz2 : ∃ T f oT, IsZipHeld h' z TI TO T f ∧ T ∉ [z, TO, i1, i2, S] ∧ h'.get? T = some oT := ⟨_, false, _, z', tout, hp⟩
      have hTO2 : ∃ a b, IsPair h' TO a b := ⟨_, _, TO'⟩
      have eS' := kp _ _ hS1 hS3 hS4 hS5 eS
      show wpAny _ A.in1 (updateSeq S (·.push (.ref s.heap.objs.size)) >>= _) _ _ _
      have upk : ∀ c o, c ≠ S → h'.get? c = some o → (h'.update S (Obj.mapSeq (·.push (.ref s.heap.objs.size)))).get? c = some o := fun c o hc e => (Heap.get?_update_other _ _ (Ne.symm hc)).trans e
      have kp2 : ∀ c o, c ∉ [z, TO, i1, i2, S] → s.heap.get? c = some o → (h'.update S (Obj.mapSeq (·.push (.ref s.heap.objs.size)))).get? c = some o := fun c o hc e => upk c o (fun q => hc (by rw [q]; simp)) (off kp c o hc e)
      have hx' : xs[ts.length]? = some x := by rw [hl]; exact hx
      have hy' : ys[ts.length]? = some y := by rw [hl]; exact hy
      obtain ⟨T2, f2, oT2, q1, q2, q3⟩ := hz2
      obtain ⟨a2, b2, hTO2⟩ := hTO2
      refine wpAny_bind ?_
      refine wpAny_updateSeq eS' rfl (wpAny_pure ⟨plainId_quiet F.plain_extend_loop _, ih (i + 1) _ (ts ++ [s.heap.objs.size]) _ (by omega) hlt (by rw [List.length_append, List.length_singleton]; omega) (Nat.le_trans hn (Nat.le_of_lt (Heap.lt_size (upk _ _ tS hp)))) (g.snoc kp2 hx' hy' (upk _ _ tS hp) hn tout (Nat.le_refl _)) (.inr ⟨T2, f2, oT2, upk _ _ (Ne.symm hS1) q1, q2, upk _ _ (fun q => q2 (by rw [q]; simp)) q3⟩)
        (upk _ _ (Ne.symm hS2) (kp _ _ D.TIz D.TITO D.TIi1 D.TIi2 hTI)) ⟨a2, b2, upk _ _ (Ne.symm hS3) hTO2⟩ (h1'.at fun o e => upk _ _ (Ne.symm hS4) e) (h2'.at fun o e => upk _ _ (Ne.symm hS5) e) (hl1.at fun o e => upk _ _ (Ne.symm hS6) (kp _ _ D.l1z D.l1TO D.l1i1 D.l1i2 e)) (hl2.at fun o e => upk _ _ (Ne.symm hS7) (kp _ _ D.l2z D.l2TO D.l2i1 D.l2i2 e)) (by rw [ea]; exact Heap.get?_update_self _ eS' rfl) fun h'' us c' r1 r2 r3 => hR h'' us c' r1 r2 r3⟩) (by omega) (by rw [Array.size_push]; omega)
    · refine wpAny_bind (wpAny_pyNext_zip_item_held D hz hT hTI h1 h2 hl1 hl2 hx hy fun h' z' h1' h2' hp hsz kp0 => ?_)
      have kp : ∀ c o, c ≠ z → c ≠ TO → c ≠ i1 → c ≠ i2 → s.heap.get? c = some o → h'.get? c = some o := fun c o c1 _ c3 c4 e => kp0 c o c1 c3 c4 e
      have hTO2 : ∃ a b, IsPair h' TO a b := ⟨_, _, kp0 _ _ D.TOz D.TOi1 D.TOi2 hTO⟩
      have hz2 : ∃ T f oT, IsZipHeld h' z TI TO T f ∧ T ∉ [z, TO, i1, i2, S] ∧ h'.get? T = some oT := ⟨T, true, oT, z', nT, off kp _ _ nT hT⟩
      have eS' := kp _ _ hS1 hS3 hS4 hS5 eS
      show wpAny _ A.in1 (updateSeq S (·.push (.ref s.heap.objs.size)) >>= _) _ _ _
      have upk : ∀ c o, c ≠ S → h'.get? c = some o → (h'.update S (Obj.mapSeq (·.push (.ref s.heap.objs.size)))).get? c = some o := fun c o hc e => (Heap.get?_update_other _ _ (Ne.symm hc)).trans e
      have kp2 : ∀ c o, c ∉ [z, TO, i1, i2, S] → s.heap.get? c = some o → (h'.update S (Obj.mapSeq (·.push (.ref s.heap.objs.size)))).get? c = some o := fun c o hc e => upk c o (fun q => hc (by rw [q]; simp)) (off kp c o hc e)
      have hx' : xs[ts.length]? = some x := by rw [hl]; exact hx
      have hy' : ys[ts.length]? = some y := by rw [hl]; exact hy
      obtain ⟨T2, f2, oT2, q1, q2, q3⟩ := hz2
      obtain ⟨a2, b2, hTO2⟩ := hTO2
      refine wpAny_bind ?_
      refine wpAny_updateSeq eS' rfl (wpAny_pure ⟨plainId_quiet F.plain_extend_loop _, ih (i + 1) _ (ts ++ [s.heap.objs.size]) _ (by omega) hlt (by rw [List.length_append, List.length_singleton]; omega) (Nat.le_trans hn (Nat.le_of_lt (Heap.lt_size (upk _ _ tS hp)))) (g.snoc kp2 hx' hy' (upk _ _ tS hp) hn tout (Nat.le_refl _)) (.inr ⟨T2, f2, oT2, upk _ _ (Ne.symm hS1) q1, q2, upk _ _ (fun q => q2 (by rw [q]; simp)) q3⟩)
        (upk _ _ (Ne.symm hS2) (kp _ _ D.TIz D.TITO D.TIi1 D.TIi2 hTI)) ⟨a2, b2, upk _ _ (Ne.symm hS3) hTO2⟩ (h1'.at fun o e => upk _ _ (Ne.symm hS4) e) (h2'.at fun o e => upk _ _ (Ne.symm hS5) e) (hl1.at fun o e => upk _ _ (Ne.symm hS6) (kp _ _ D.l1z D.l1TO D.l1i1 D.l1i2 e)) (hl2.at fun o e => upk _ _ (Ne.symm hS7) (kp _ _ D.l2z D.l2TO D.l2i1 D.l2i2 e)) (by rw [ea]; exact Heap.get?_update_self _ eS' rfl) fun h'' us c' r1 r2 r3 => hR h'' us c' r1 r2 r3⟩) (by omega) (by rw [Array.size_push]; omega)
end
section
variable {prog : Program} {w : World} {A : Around} {E : Value → Shared → Prop} {s : Shared}
theorem collect_zip {z TI TO i1 i2 l1 l2 : Addr} {xs ys : Array Value} {a b : Value} {Q : List Value → Shared → Prop} (hh : A.handled = none) (D : ZipApart z TI TO i1 i2 l1 l2) (same : xs.size = ys.size) (fit : xs.size ≤ sizeLine)
    (hz : IsZip s.heap z TI TO .none) (hTI : IsPair s.heap TI (.ref i1) (.ref i2)) (hTO : IsPair s.heap TO a b) (h1 : s.heap.IsListIter i1 l1 0) (h2 : s.heap.IsListIter i2 l2 0) (hl1 : s.heap.IsList l1 xs) (hl2 : s.heap.IsList l2 ys)
    (hQ : ∀ (h' : Heap) (us : List Addr), us.length = xs.size → Gave s.heap h' s.heap.objs.size [z, TO, i1, i2, s.heap.objs.size] xs ys us → Q (us.map Value.ref) { s with heap := h' }) : wpAny (model prog w) A (collect (.ref z)) Q E s := by
  have nz : z < s.heap.objs.size := Heap.lt_size hz
  have nTO : TO < s.heap.objs.size := Heap.lt_size hTO
  have nTI : TI < s.heap.objs.size := Heap.lt_size hTI
  have ni1 : i1 < s.heap.objs.size := by obtain ⟨_, e, _⟩ := id h1; exact Heap.lt_size e
  have ni2 : i2 < s.heap.objs.size := by obtain ⟨_, e, _⟩ := id h2; exact Heap.lt_size e
  have nl1 : l1 < s.heap.objs.size := by obtain ⟨_, e, _⟩ := id hl1; exact Heap.lt_size e
  have nl2 : l2 < s.heap.objs.size := by obtain ⟨_, e, _⟩ := id hl2; exact Heap.lt_size e
  have hSI : s.heap.objs.size ≠ z := Nat.ne_of_gt nz
  have hS : s.heap.objs.size ∉ [z, TI, TO, i1, i2, l1, l2] := by
    simp only [List.mem_cons, List.not_mem_nil, or_false, not_or]
    exact ⟨hSI, Nat.ne_of_gt nTI, Nat.ne_of_gt nTO, Nat.ne_of_gt ni1, Nat.ne_of_gt ni2, Nat.ne_of_gt nl1, Nat.ne_of_gt nl2⟩
  unfold collect
  refine wpAny_bind (wpAny_runValue (codeAny_builtin F.entry_proto_collect ?_))
  rw [Around.under_plainId F.plain_proto_collect _]
  show wpAny _ A.in1 (newList [] >>= fun l => again (.builtin "list.__iadd__" ⟨[l, .ref z], []⟩)) _ _ s
  refine wpAny_bind (wpAny_newObj_type ?_)
  refine wpAny_pure ⟨plainId_quiet F.plain_list_iadd _, codeAny_builtin F.entry_list_iadd ?_⟩
  rw [Around.under_plainId F.plain_list_iadd _]
  have hz1 : IsZip (s.heap.push { cls := .type "list", data := .seq ([] : List Value).toArray }) z TI TO .none := Heap.get?_push_of_some _ hz
  have hT : ({ s with heap := s.heap.push { cls := .type "list", data := .seq ([] : List Value).toArray } } : Shared).TypeIs (.ref z) "zip" := ⟨_, hz1, rfl⟩
  show wpAny _ A.in1 (Builtin.List.listExtendWith (.ref s.heap.objs.size) (.ref z) (.ref s.heap.objs.size)) _ _ _
  unfold Builtin.List.listExtendWith
  refine wpAny_bind (wpAny_typeOf hT ?_)
  have h1' : Builtin.List.listSameRef (.ref s.heap.objs.size) (.ref z) = false := by simp [Builtin.List.listSameRef, hSI]
  have h2' : (Value.type "zip" == Value.type "list") = false := by decide
  have h3' : (Value.type "zip" == Value.type "tuple") = false := by decide
  simp only [h1', h2', h3', Bool.or_false, Bool.false_eq_true, if_false]
  refine wpAny_bind (wpAny_pyIter_zip hz1 ?_)
  refine wpAny_bind (wpAny_holding ?_)
  unfold Builtin.List.listLengthHint
  refine wpAny_bind (wpAny_specialOf hT zip_nolen ?_)
  show wpAny _ A.in1 (specialOf (Value.ref z) (Str.ofString "__length_hint__") >>= _) _ _ _
  refine wpAny_bind (wpAny_specialOf hT zip_nohint ?_)
  refine wpAny_pure ?_
  show wpAny _ A.in1 (rule "list.extend.makes-room" >>= fun _ => Builtin.List.listTouch (.ref s.heap.objs.size) >>= fun _ =>
    again (.builtin "list.extend.loop" ⟨[.ref s.heap.objs.size, .ref z, .ref s.heap.objs.size], []⟩)) _ _ _
  refine wpAny_bind (wpAny_rule ?_)
  have hS₁ : (s.heap.push { cls := .type "list", data := .seq ([] : List Value).toArray }).get? s.heap.objs.size = some { cls := .type "list", data := .seq ([] : List Value).toArray } := Heap.get?_push_size _ rfl
  refine wpAny_bind ?_
  show wpAny _ A.in1 (updateSeq s.heap.objs.size (·.push .none) >>= fun _ => updateSeq s.heap.objs.size (·.pop)) _ _ _
  refine wpAny_bind (wpAny_updateSeq hS₁ rfl ?_)
  have hS₂ := Heap.get?_update_self (Obj.mapSeq (·.push Value.none)) hS₁ rfl
  refine wpAny_updateSeq hS₂ rfl ?_
  have hS₃ := Heap.get?_update_self (Obj.mapSeq (·.pop)) hS₂ rfl
  have oth : ∀ b o, b ≠ s.heap.objs.size → s.heap.get? b = some o →
      (((s.heap.push { cls := .type "list", data := .seq ([] : List Value).toArray }).update s.heap.objs.size (Obj.mapSeq (·.push Value.none))).update s.heap.objs.size (Obj.mapSeq (·.pop))).get? b = some o :=
    fun b o hb e => (Heap.get?_update_other _ _ (Ne.symm hb)).trans ((Heap.get?_update_other _ _ (Ne.symm hb)).trans (Heap.get?_push_of_some _ e))
  refine wpAny_pure ⟨plainId_quiet F.plain_extend_loop _, extend_zip (h0 := s.heap) (n0 := s.heap.objs.size) D hh same fit hS _ xs.size 0 _ [] _ (by omega) (by omega) rfl (Nat.le_of_lt (Heap.lt_size hS₃))
    ⟨fun j t e => by simp at e, fun t ht => (List.not_mem_nil ht).elim, List.nodup_nil, fun c o hc e => oth c o (fun q => hc (by rw [q]; simp)) e⟩ (.inl (oth _ _ (Nat.ne_of_lt nz) hz)) (oth _ _ (Nat.ne_of_lt nTI) hTI) ⟨a, b, oth _ _ (Nat.ne_of_lt nTO) hTO⟩
    (h1.at fun o e => oth _ _ (Nat.ne_of_lt ni1) e) (h2.at fun o e => oth _ _ (Nat.ne_of_lt ni2) e) (hl1.at fun o e => oth _ _ (Nat.ne_of_lt nl1) e) (hl2.at fun o e => oth _ _ (Nat.ne_of_lt nl2) e) hS₃ fun h' us c' r1 r2 r3 => ?_⟩
  show wpAny _ A (load s.heap.objs.size >>= _) _ _ _
  refine wpAny_bind (wpAny_load r3 ?_)
  refine wpAny_pure ?_
  have := hQ h' us r1 r2
  simpa using this
theorem code_tuple_new_zip {z TI TO i1 i2 l1 l2 : Addr} {xs ys : Array Value} {a b : Value} {Q₁ : Value → Shared → Prop} (hh : A.handled = none) (D : ZipApart z TI TO i1 i2 l1 l2) (same : xs.size = ys.size) (fit : xs.size ≤ sizeLine)
    (hz : IsZip s.heap z TI TO .none) (hTI : IsPair s.heap TI (.ref i1) (.ref i2)) (hTO : IsPair s.heap TO a b) (h1 : s.heap.IsListIter i1 l1 0) (h2 : s.heap.IsListIter i2 l2 0) (hl1 : s.heap.IsList l1 xs) (hl2 : s.heap.IsList l2 ys)
    (hQ : ∀ (h' : Heap) (us : List Addr), us.length = xs.size → Gave s.heap h' s.heap.objs.size [z, TO, i1, i2, s.heap.objs.size] xs ys us → Q₁ (.ref h'.objs.size) { s with heap := h'.push { cls := .type "tuple", data := .seq (us.map Value.ref).toArray } }) :
    codeAny (model prog w) A (.call (.builtin "tuple.__new__") ⟨[.type "tuple", .ref z], []⟩) (wants Q₁ E) s := by
  refine codeAny_of_tree ?_
  show wpAny _ A.in1 (do checkBuiltinCall "tuple.__new__" ⟨[.type "tuple", .ref z], []⟩; again (.builtin "tuple.__new__" ⟨[.type "tuple", .ref z], []⟩)) _ _ s
  refine wpAny_bind (wpAny_of_eq (F.newCall_tuple_1 _) (wpAny_pure ⟨plainId_quiet F.plain_tuple_new _, codeAny_builtin F.entry_tuple_new ?_⟩))
  rw [Around.under_plainId F.plain_tuple_new _]
  have hsub := sub_tuple_self
  have hinit := init_tuple_lookup
  have hmh := madeHere_tuple
  have hTz : s.TypeIs (.ref z) "zip" := ⟨_, hz, rfl⟩
  have hh1 : A.in1.handled = none := hh
  wp_walk using wpAny_typeOf hTz, collect_zip (A := A.in1) hh1 D same fit hz hTI hTO h1 h2 hl1 hl2
  intro h' us ul g
  show wpAny _ _ (Builtin.Tuple.tupleExact (us.map Value.ref).toArray >>= fun v => ret v) _ _ _
  unfold Builtin.Tuple.tupleExact
  refine wpAny_bind (wpAny_newObj_type ?_ (by show (us.map Value.ref).toArray.size ≤ sizeLine; simp only [List.size_toArray, List.length_map]; omega))
  exact wpAny_pure (hQ h' us ul g)
theorem call_tuple_zip {z TI TO i1 i2 l1 l2 : Addr} {xs ys : Array Value} {a b : Value} {Q : Value → Shared → Prop} (hh : A.handled = none) (D : ZipApart z TI TO i1 i2 l1 l2) (same : xs.size = ys.size) (fit : xs.size ≤ sizeLine)
    (hz : IsZip s.heap z TI TO .none) (hTI : IsPair s.heap TI (.ref i1) (.ref i2)) (hTO : IsPair s.heap TO a b) (h1 : s.heap.IsListIter i1 l1 0) (h2 : s.heap.IsListIter i2 l2 0) (hl1 : s.heap.IsList l1 xs) (hl2 : s.heap.IsList l2 ys)
    (hQ : ∀ (h' : Heap) (us : List Addr), us.length = xs.size → Gave s.heap h' s.heap.objs.size [z, TO, i1, i2, s.heap.objs.size] xs ys us → Q (.ref h'.objs.size) { s with heap := h'.push { cls := .type "tuple", data := .seq (us.map Value.ref).toArray } }) :
    wpAny (model prog w) A (call (.type "tuple") [.ref z]) Q E s := by
  refine callType_codes (Q₁ := fun obj s₁ => s₁.TypeIs obj "tuple" ∧ Q obj s₁) F.called_tuple (F.typeCall_tuple_1 _) F.entry_object_init
    (code_tuple_new_zip (A := A.in1) hh D same fit hz hTI hTO h1 h2 hl1 hl2 fun h' us ul g => ⟨⟨_, Heap.get?_push_size _ rfl, rfl⟩, hQ h' us ul g⟩) fun obj s₁ h₁ => ?_
  exact ⟨h₁.1, F.args_object_init_2 obj _, object_init_meets F.called_tuple.init.lookup F.called_tuple.made (by decide) prog w A.in1 _ s₁ ⟨h₁.1, rfl, h₁.2⟩⟩
end
theorem paired_by {α β : Type} {R : α → β → Prop} : ∀ {as : List α} {bs : List β}, as.length = bs.length → (∀ (i : Nat) a b, as[i]? = some a → bs[i]? = some b → R a b) → Paired R as bs
  | [], [], _, _ => .nil
  | a :: as, b :: bs, l, h => .cons (h 0 a b rfl rfl) (paired_by (by simpa using l) fun i x y e1 e2 => h (i + 1) x y e1 e2)
  | [], _ :: _, l, _ => by simp at l
  | _ :: _, [], l, _ => by simp at l
theorem paired_mem {α β : Type} {F G : α → β → Prop} : ∀ {l : List α} {m : List β}, (∀ a ∈ l, ∀ b, F a b → G a b) → Paired F l m → Paired G l m
  | _, _, _, .nil => .nil
  | _, _, h, .cons x r => .cons (h _ (List.mem_cons_self ..) _ x) (paired_mem (fun a ha => h a (List.mem_cons_of_mem _ ha)) r)
section
variable {X : Cx} {pins : List (Addr × Obj)} {σ : L2.St} {H : Hp} {s : Shared}
theorem lay_pairs {h' : Heap} (I : L2.Inv X pins σ H s) (kp : ∀ c o, s.heap.get? c = some o → h'.get? c = some o) : ∀ {ts : List Addr} {xys : List (V × V)}, Paired (fun t xy => ∃ u v, RelV xy.1 u ∧ RelV xy.2 v ∧ IsPair h' t u v) ts xys → ts.Nodup → (∀ t ∈ ts, s.heap.objs.size ≤ t) →
    ∃ (H' : Hp) (G : Heap), L2.Inv X pins σ H' { s with heap := G } ∧ (∀ c, c ∉ ts → H' c = H c) ∧ Paired (fun t xy => H' t = some (.tup [xy.1, xy.2])) ts xys ∧ (∀ c o, G.get? c = some o → h'.get? c = some o) ∧ ∀ c o, G.get? c = some o → (∃ o, s.heap.get? c = some o) ∨ c ∈ ts
  | _, _, .nil, _, _ => ⟨H, s.heap, I, fun _ _ => rfl, .nil, kp, fun c o e => .inl ⟨o, e⟩⟩
  | t :: ts, xy :: xys, .cons ⟨u, v, ru, rv, hp⟩ r, nd, low => by
    obtain ⟨nt, nd'⟩ := List.nodup_cons.mp nd
    obtain ⟨H', G, I', e1, e2, e3, e4⟩ := lay_pairs I kp r nd' fun z hz => low z (List.mem_cons_of_mem _ hz)
    obtain ⟨G', g1, g2⟩ := restrict h' fun c => (G.get? c).isSome || c == t
    have lt := low t (List.mem_cons_self ..)
    have gn : G.get? t = none := by
      cases e : G.get? t with
      | none => rfl
      | some o =>
        rcases e4 t o e with ⟨o', z⟩ | z
        · exact absurd (Heap.lt_size z) (Nat.not_lt.mpr lt)
        · exact absurd z nt
    have hn : H' t = none := by
      rw [e1 t nt]
      exact I.hok.fresh lt
    have gG : ∀ c o, G.get? c = some o → G'.get? c = some o := fun c o e => by
      rw [g1 c (by simp [e])]
      exact e3 c o e
    have gt : G'.get? t = some { cls := .type "tuple", data := .seq #[u, v] } := by
      rw [g1 t (by simp)]
      exact hp
    have line : sizeLine = 16777216 := sizeLine_eq
    refine ⟨upd H' t (.tup [xy.1, xy.2]), G', I'.laidN (t' := s.toks) gG gn hn ⟨(by show 2 ≤ sizeLine; omega), [u, v], .cons ru (.cons rv .nil), ⟨_, gt, rfl, _, rfl⟩⟩, fun c hc => ?_, .cons upd_same (paired_mem (fun a ha b e => (upd_ne fun z => nt (by rw [← z]; exact ha)).trans e) e2), fun c o e => ?_, fun c o e => ?_⟩
    · rw [upd_ne fun z => hc (by rw [z]; exact List.mem_cons_self ..)]
      exact e1 c fun z => hc (List.mem_cons_of_mem _ z)
    · by_cases hc : ((G.get? c).isSome || c == t) = true
      · rw [g1 c hc] at e
        exact e
      · rw [g2 c (by simpa using hc)] at e
        cases e
    · by_cases hc : ((G.get? c).isSome || c == t) = true
      · rw [Bool.or_eq_true] at hc
        rcases hc with hc | hc
        · obtain ⟨o', ho⟩ := Option.isSome_iff_exists.mp hc
          rcases e4 c o' ho with z | z
          · exact .inl z
          · exact .inr (List.mem_cons_of_mem _ z)
        · exact .inr (by rw [eq_of_beq hc]; exact List.mem_cons_self ..)
      · rw [g2 c (by simpa using hc)] at e
        cases e
end
section
variable {X : Cx} {e e2 : Expr} {ta : L2.TA} {p p2 pos pos2 : Pos}
def tTupZip (K : PySem.W.Frag) (ta : L2.TA) : L2.TE := fun σ H Q => ta σ H fun vs H1 => ∃ (a b : Addr) (xs ys : List V), vs = [.ref a, .ref b] ∧ SqL K H1 a xs ∧ SqL K H1 b ys ∧ xs.length = ys.length ∧
  ∀ (q : Addr) (o : Obj) (ps : List Addr) (H2 : Hp), Same H1 H2 → H1 q = none → o.dict = none → H2 q = some (.frz o (.tup (ps.map V.ref))) → Paired (fun t xy => H2 t = some (.tup [xy.1, xy.2])) ps (xs.zip ys) → Q (.ref q) H2
theorem pe_tupZip (hc : X.calm = true) (hg : Gl X "tuple") (hm : X.mg "tuple" = none) (hg2 : Gl X "zip") (hm2 : X.mg "zip" = none) (ha : L2.PA X [e, e2] ta) (hbt : PySem.bootBuiltins "tuple" = some (.type "tuple") := by decide +kernel)
    (hs : starEach [e, e2] X.env = (false, eval e X.env) :: starEach [e2] X.env := by rfl) (hpl : (backTo pos2 (starEach [e2] X.env)).any (·.1) = false := by rfl)
    (na : starEach [Expr.Call (.Name "zip" p2) [e, e2] [] pos2] X.env = (false, eval (Expr.Call (.Name "zip" p2) [e, e2] [] pos2) X.env) :: starEach [] X.env := by rfl) :
    L2.PE X (.Call (.Name "tuple" p) [.Call (.Name "zip" p2) [e, e2] [] pos2] [] pos) (tTupZip X.K ta) := by
  refine ⟨fun pins s σ H Q I h => ?_⟩
  refine Call_ (ld_blt I hg hm hbt (PyProof.Rows.callWith_type1 (args_cons ?_ na) na))
  refine Call_ (ld_blt I hg2 hm2 PyProof.Rows.boot_zip (PyProof.Rows.callWith_type1 (thn (ha.run pos2 pins s σ H _ I h) fun us s1 ⟨vs, H1, I1, r1, a, b, xs, ys, ex, hx, hy, len, q⟩ => ?_) hs hpl))
  subst ex
  obtain ⟨u1, u2, rfl, ra, rb⟩ := vals2 r1
  cases ra
  cases rb
  obtain ⟨its, rv, pa, za⟩ := I1.list hx
  obtain ⟨its2, rv2, pb, _⟩ := I1.list hy
  refine call_zip_2 pa.isList pb.isList fun h' hz hTI hTO h1 h2 hsz keep => args_nil ?_
  have l1 := rv.length
  have l2 := rv2.length
  refine call_tuple_zip (s := { s1 with heap := h' }) (I1.ok.hd hc) (PySem.W.ktu_apart s1.heap.objs.size a b pa.lt pb.lt) (by simp only [List.size_toArray]; omega) (by simp only [List.size_toArray]; omega) hz hTI hTO h1 h2 (pa.isList.at fun o e => keep _ o e) (pb.isList.at fun o e => keep _ o e) fun h3 ts tl g => ?_
  simp only [List.size_toArray] at tl
  have ex : ∀ c o, s1.heap.get? c = some o → c ∉ [s1.heap.objs.size + 4, s1.heap.objs.size + 3, s1.heap.objs.size, s1.heap.objs.size + 1, h'.objs.size] := fun c o e => by
    have lt := Heap.lt_size e
    have hsz' : h'.objs.size = s1.heap.objs.size + 5 := hsz
    simp only [List.mem_cons, List.not_mem_nil, or_false, not_or]
    refine ⟨fun z => ?_, fun z => ?_, fun z => ?_, fun z => ?_, fun z => ?_⟩
    · exact Nat.not_lt.mpr (Nat.le_add_right _ _) (z ▸ lt)
    · exact Nat.not_lt.mpr (Nat.le_add_right _ _) (z ▸ lt)
    · exact Nat.lt_irrefl _ (z ▸ lt)
    · exact Nat.not_lt.mpr (Nat.le_add_right _ _) (z ▸ lt)
    · rw [z, hsz'] at lt
      exact Nat.not_lt.mpr (Nat.le_add_right _ _) lt
  have kp : ∀ c o, s1.heap.get? c = some o → h3.get? c = some o := fun c o e => g.kp c o (ex c o e) (keep c o e)
  have prs : Paired (fun t xy => ∃ u v, RelV xy.1 u ∧ RelV xy.2 v ∧ IsPair h3 t u v) ts (xs.zip ys) := paired_by (by rw [List.length_zip]; omega) fun i t xy e1 e2 => by
    obtain ⟨x, y, f1, f2, f3⟩ := g.prs i t e1
    obtain ⟨g1, g2⟩ := List.getElem?_zip_eq_some.mp e2
    obtain ⟨u, hu, ru⟩ := rv.get g1
    obtain ⟨v, hv, rv'⟩ := rv2.get g2
    rw [List.getElem?_toArray, hu] at f1
    rw [List.getElem?_toArray, hv] at f2
    cases f1
    cases f2
    exact ⟨_, _, ru, rv', f3⟩
  have low : ∀ t ∈ ts, s1.heap.objs.size ≤ t := fun t ht => by
    have := (g.low t ht).1
    have hsz' : h'.objs.size = s1.heap.objs.size + 5 := hsz
    have this' : h'.objs.size ≤ t := this
    omega
  obtain ⟨H2, G, I2, d1, d2, d3, d4⟩ := lay_pairs I1 kp prs g.nd low
  have big : s1.heap.objs.size ≤ h3.objs.size := by
    have hsz' : h'.objs.size = s1.heap.objs.size + 5 := hsz
    have e := g.kp (s1.heap.objs.size + 2) _ (fun z => by
      simp only [List.mem_cons, List.not_mem_nil, or_false] at z
      rcases z with z | z | z | z | z
      · exact absurd (Nat.add_left_cancel z) (by decide)
      · exact absurd (Nat.add_left_cancel z) (by decide)
      · exact Nat.ne_of_gt (Nat.lt_add_of_pos_right (by decide)) z
      · exact absurd (Nat.add_left_cancel z) (by decide)
      · exact absurd (Nat.add_left_cancel (z.trans hsz')) (by decide)) hTI
    exact Nat.le_of_lt (Nat.lt_of_le_of_lt (Nat.le_add_right _ _) (Heap.lt_size e))
  have gn : G.get? h3.objs.size = none := by
    cases e : G.get? h3.objs.size with
    | none => rfl
    | some o => exact absurd (Heap.lt_size (d3 _ o e)) (Nat.lt_irrefl _)
  have tn : h3.objs.size ∉ ts := fun z => Nat.lt_irrefl _ (g.low _ z).2.1
  have nH : H1 h3.objs.size = none := I1.hok.fresh big
  have hn : H2 h3.objs.size = none := by
    rw [d1 _ tn]
    exact nH
  have sm : Same H1 H2 := fun c o e => by
    rw [d1 c fun z => ?_]
    · exact e
    · have := I1.hok.fresh (low c z)
      rw [this] at e
      cases e
  have refs : Vals (ts.map V.ref) (ts.map Value.ref) := by
    generalize ts = l
    induction l with
    | nil => exact .nil
    | cons x l ih => exact .cons rfl ih
  refine ⟨.ref h3.objs.size, upd H2 h3.objs.size (.frz { cls := .type "tuple", data := .seq (ts.map Value.ref).toArray } (.tup (ts.map V.ref))), I2.laidN (t' := s1.toks) (fun c o e => Heap.get?_push_of_some _ (d3 c o e)) gn hn ⟨Heap.get?_push_size _ rfl, by rw [List.length_map]; omega, _, refs, IsTup.new _ _⟩, rfl, q _ _ ts _ (fun c o e => (upd_ne (ne_of_none (sm c o e) hn)).trans (sm c o e)) nH rfl upd_same (Paired.mapP d2 fun t xy e => (upd_ne (ne_of_none e hn)).trans e)⟩
end
end Mine

set_option Elab.async false
set_option linter.all false
set_option maxRecDepth 100000
set_option maxHeartbeats 4000000
/-! xs[::2], xs[1::2] of a list. -/
namespace Mine
open PySem PySem.Spec PyProof.Rows L2
theorem vals_places : ∀ {xs : List V} {us : List Value}, Vals xs us → ∀ js : List Nat, Vals (js.filterMap (xs[·]?)) (js.filterMap (us[·]?))
  | _, _, _, [] => .nil
  | xs, us, h, j :: js => by
    have ih := vals_places h js
    cases hn : xs[j]? with
    | some n =>
      obtain ⟨u, hv, ru⟩ := h.get hn
      simp only [List.filterMap_cons, hn, hv]
      exact .cons ru ih
    | none =>
      have hv : us[j]? = none := by
        rw [List.getElem?_eq_none_iff] at hn ⊢
        rw [← h.length]
        exact hn
      simp only [List.filterMap_cons, hn, hv]
      exact ih
def at2 (lo : Option Int) (xs : List V) : List V := (sliceRange (sliceBounds lo none (some 2) xs.length).1 (sliceBounds lo none (some 2) xs.length).2.1 (sliceBounds lo none (some 2) xs.length).2.2).filterMap (xs[·]?)
def tSl2 (K : PySem.W.Frag) (te : TE) (tl : TO) : TE := fun σ H Q => te σ H fun x H1 => tl σ H1 fun o H2 => ∃ a xs, x = .ref a ∧ SqL K H2 a xs ∧ ∀ p, H2 p = none → Q (.ref p) (upd H2 p (.lst (at2 o xs)))
section
variable {X : Cx}
theorem pe_sl2 {e : Expr} {lo : Option Expr} {te : TE} {tl : TO} {k : Nat} {p1 p2 pos : Pos} (he : PE X e te) (hl : PO X lo tl) : PE X (.Subscript e (.Slice lo none (some (.Constant (.int 2) k p1)) p2) pos) (tSl2 X.K te tl) := by
  refine ⟨fun pins s σ H Q I h => ?_⟩
  refine Subscript_ (thn (he.run pins s σ H _ I h) fun v s1 ⟨x, H1, I1, r1, q1⟩ => ?_)
  have hst : PO X (some (.Constant (.int 2) k p1)) (tPart (tC (.int 2))) := po_some pe_int
  refine wpAny_Slice (thn (hl.run pins s1 σ H1 _ I1 q1) fun vl s2 ⟨l, H2, I2, pl, q2⟩ => ?_)
  refine thn (po_none.run pins s2 σ H2 (fun o H3 => o = none ∧ H3 = H2) I2 ⟨rfl, rfl⟩) fun vu s3 ⟨u, H3, I3, pu, eu, e3⟩ => ?_
  subst eu e3
  refine thn (hst.run pins s3 σ H3 (fun o H4 => o = some 2 ∧ H4 = H3) I3 ⟨2, rfl, rfl, rfl⟩) fun vs s4 ⟨o, H4, I4, ps, eo, e4⟩ => ?_
  subst eo e4
  obtain ⟨a, xs, ex, hx, q⟩ := q2
  subst ex
  cases r1
  have I5 : L2.Inv X pins σ H4 { s4 with heap := s4.heap.push { cls := .type "slice", data := .fields #[vl, vu, vs] } } := I4.kept (t' := s4.toks) fun b ob q => Heap.get?_push_of_some _ q
  obtain ⟨its, r, ht, hz⟩ := I5.list hx
  have hlen := r.length
  show wpAny (model X.prog X.w) X.A (subscriptTail e (.Slice lo none (some (.Constant (.int 2) k p1)) p2) (.ref a) (.ref s4.heap.objs.size)) (EP X pins σ Q) X.xe { s4 with heap := s4.heap.push { cls := .type "slice", data := .fields #[vl, vu, vs] } }
  refine tail_any (ops := [.ref a, .ref s4.heap.objs.size]) ht.isList.typeIs (PySem.slot_list_getitem.lookup) ?_ (by with_unfolding_all rfl)
  refine wpAny_getItem_list_slice ht.isList (Heap.IsSliceOf.new _ vl vu vs) pl pu ps (by decide) ?_ (by rw [List.size_toArray]; omega)
  have e : slicePick its.toArray l none (some 2) = ((sliceRange (sliceBounds l none (some 2) xs.length).1 (sliceBounds l none (some 2) xs.length).2.1 (sliceBounds l none (some 2) xs.length).2.2).filterMap (its[·]?)).toArray := by
    simp [slicePick, hlen]
  have sz := slicePick_size_le its.toArray l none (some 2)
  rw [e] at sz ⊢
  have rr := vals_places r (sliceRange (sliceBounds l none (some 2) xs.length).1 (sliceBounds l none (some 2) xs.length).2.1 (sliceBounds l none (some 2) xs.length).2.2)
  refine ⟨.ref _, _, I5.laid (t' := s4.toks) (o := .lst (at2 l xs)) (fun b ob q => Heap.get?_push_of_some _ q) (Nat.le_refl _) ?_, rfl, q _ (I5.hok.fresh (Nat.le_refl _))⟩
  have l2 := rr.length
  simp only [List.size_toArray] at sz
  exact ⟨by show (at2 l xs).length ≤ sizeLine; unfold at2; omega, _, 0, rr, Heap.get?_push_size _ rfl⟩
end
end Mine

set_option Elab.async false
set_option linter.all false
set_option maxRecDepth 100000
set_option maxHeartbeats 4000000
/-! for i, c in enumerate(text); xs[b:] = [x]. -/
namespace Mine
open PySem PySem.Spec PyProof.Rows L2
/-- sign i of a text, numbered, in a new pair -/
def IteT (x : Str) : It where
  go := fun i _ => i < x.cps.size
  yld := fun i H v H' => ∃ T c, v = .ref T ∧ H T = none ∧ H' = upd H T (.tup [.int (i : Nat), .str ⟨#[c]⟩]) ∧ x.cps[i]? = some c
  stop := fun i _ => x.cps.size ≤ i
def EnT (x : Str) (t : Tok) (e it : Addr) (i : Nat) (h : Heap) : Prop := (∃ old, IsEnum h e it ((i : Nat) : Int) old) ∧ h.IsStrIter it (strIterType x) x t i ∧ e ≠ it
theorem EnT.to {x : Str} {t : Tok} {e it : Addr} {i : Nat} {h h' : Heap} (y : EnT x t e it i h) (ke : ∀ o, h.get? e = some o → h'.get? e = some o) (ki : ∀ o, h.get? it = some o → h'.get? it = some o) : EnT x t e it i h' := by
  obtain ⟨⟨old, he⟩, hi, n⟩ := y
  obtain ⟨o, ho, r⟩ := hi
  exact ⟨⟨old, ke _ he⟩, ⟨o, ki o ho, r⟩, n⟩
theorem enumT_over {P : Program} {w : World} {A : Around} {E : Value → Shared → Prop} {s : Shared} {e it : Addr} {i : Nat} {c : Int} {x : Str} {t : Tok} {old : Value} {Q : Option Value → Shared → Prop} (hd : A.handled = none)
    (ob : IsEnum s.heap e it c old) (at_ : s.heap.IsStrIter it (strIterType x) x t i) (nx : x.cps[i]? = none) (go : ∀ h', Heap.ExtBut it s.heap h' → Q none { s with heap := h' }) :
    wpAny (model P w) A (pyNext (.ref e)) Q E s := by
  unfold pyNext
  have ty : s.TypeIs (.ref e) "enumerate" := ⟨_, ob, rfl⟩
  have fin : ∀ {Q : Value → Shared → Prop} {E' : Value → Shared → Prop}, (∀ h' e, Heap.ExtBut it s.heap h' → (∃ o, h'.get? e = some o ∧ o.cls = .type "StopIteration") → E' (.ref e) { s with heap := h' }) → wpAny (model P w) A.in1 (Builtin.SmallTypes.nextOf (.ref it)) Q E' s := by
    intro Q E' h
    cases ha : x.cps.all (· < 128)
    · simp only [strIterType, ha, Bool.false_eq_true, if_false] at at_
      exact wpAny_nextOf_wide_end hd at_ nx h
    · simp only [strIterType, ha, if_true] at at_
      exact wpAny_nextOf_ascii_end hd at_ nx h
  refine wpAny_bind (wpAny_attempt (wpAny_callSpecial?_slot (name := Str.ofString "__next__") ty F.slot_enumerate_next (wpAny_call_entry F.slot_enumerate_next ty F.entry_enumerate_next ?q1 (F.args_enumerate_next_1 _))))
  case q1 =>
    show wpAny _ _ (field (.ref e) 2 >>= _) _ _ _
    refine wpAny_bind (wpAny_field ob rfl (x := .ref it) rfl (wpAny_bind (fin fun h' z eb hz => ?_)))
    obtain ⟨oz, gz, cz⟩ := hz
    exact wpAny_bind (wpAny_isInstance (T := "StopIteration") (b := true) ⟨oz, gz, cz⟩ isSubtype_stop (wpAny_pure (go _ eb)))
theorem turn_enumT {P : Program} {w : World} {K : PySem.W.Frag} {elts : List Expr} {kk : Nat} {tpos : Pos} (x : Str) (t : Tok) (e it : Addr) : Turn P w K (.Tuple elts kk tpos) (IteT x) [e, it] e (EnT x t e it) := by
  refine { mem := List.mem_cons_self .., obj := ?ob, keep := fun i h h' y k => y.to (k e (by simp)) (k it (by simp)), item := ?nx, done := ?en, self := fun A i s Q E y h => wpAny_pyIter_enum y.1.choose_spec h }
  case ob =>
    intro i h y b hb
    obtain ⟨⟨old, he⟩, ⟨o, ho, _, hd⟩, _⟩ := y
    rcases two_of hb with rfl | rfl
    · exact ⟨_, he, fun _ q => nomatch q⟩
    · refine ⟨o, ho, fun v q => ?_⟩
      rw [hd] at q
      cases q
  case nx =>
    rintro X rfl rfl rfl hc i pins s σ H E I hf ⟨⟨old, he⟩, hit, hne⟩ hi
    have le : e < s.heap.objs.size := Heap.lt_size he
    have li : it < s.heap.objs.size := Heap.lt_size hit.choose_spec.1
    have D := Draws.text (prog := X.prog) (w := X.w) (A := X.A.in1) (I.ok.hd hc) it x t
    refine wpAny_pyNext_enum_itemC D he hit hi hne (by simp [hne]) fun z h1 tk hz out st1 tup _ kp => ?_
    obtain ⟨c, u, hc', rfl⟩ := hz
    refine ⟨_, rfl, wpAny_letOwnedTupleGo_enum (s := { s with heap := h1, toks := tk + 1 }) out fun h2 he2 sb => ?_⟩
    have ob : ObjOk X.prog X.w (upd H s.heap.objs.size (.tup [.int (i : Nat), .str ⟨#[c]⟩])) h2 s.heap.objs.size (.tup [.int (i : Nat), .str ⟨#[c]⟩]) := by
      refine ⟨(by show 2 ≤ sizeLine; decide), [.int (i : Nat) tk, .str ⟨#[c]⟩ u], .cons ⟨_, rfl⟩ (.cons ⟨_, rfl⟩ .nil), _, (sb.2 _ (Nat.ne_of_gt le)).trans tup, rfl, _, rfl⟩
    refine ⟨.ref s.heap.objs.size, _, I.turnedNew (t' := tk + 1) (ch := [e, it]) (fun b o hb g => (sb.2 b (off_two hb).1).trans (kp b o (off_two hb).1 (off_two hb).2 g)) hf (Nat.le_refl _) ob, rfl,
      ⟨_, c, rfl, I.hok.fresh (Nat.le_refl _), rfl, hc'⟩, ⟨⟨.str ⟨#[c]⟩ u, ?_⟩, (by obtain ⟨o, ho, r⟩ := st1; exact ⟨o, (sb.2 it (Ne.symm hne)).trans ho, r⟩), hne⟩, fun b hb => ?_⟩
    · rw [show ((i + 1 : Nat) : Int) = (i : Int) + 1 by omega]
      exact he2
    · have lb : b < s.heap.objs.size := (two_of hb).elim (fun z => z ▸ le) fun z => z ▸ li
      exact (upd_ne (Nat.ne_of_lt lb)).trans (hf b hb).1
  case en =>
    rintro X rfl rfl rfl hc i pins s σ H E I hf ⟨⟨old, he⟩, hit, _⟩ hi
    obtain ⟨f0, f1, _, f3, f4, f5⟩ := hf it (by simp)
    exact enumT_over (I.ok.hd hc) he hit (Array.getElem?_eq_none hi) fun h' eb => ⟨rfl, I.turned (t' := s.toks) (fun b o hb g => eb b o hb g) f0 f1 f3 f4 f5⟩
section
variable {X : Cx} {elts : List Expr} {kk : Nat} {p pos tpos : Pos} {e : Expr} {te : TA}
def iEnumT (te : TA) : TI := fun σ H R => te σ H fun vs H1 => ∃ x, vs = [.str x] ∧ R (IteT x) H1
theorem pi_enumT (hg : Gl X "enumerate") (hm : X.mg "enumerate" = none) (ha : PA X [e] te) (hs : starEach [e] X.env = [(false, eval e X.env)] := by rfl) :
    PI X (.Tuple elts kk tpos) (.Call (.Name "enumerate" p) [e] [] pos) (iEnumT te) := by
  refine ⟨fun pins s σ H R I h => ?_⟩
  refine Call_ (ld_blt I hg hm boot_enumerate (PyProof.Rows.callWith_type1 (thn (ha.run pos pins s σ H _ I h) fun us s1 ⟨vs, H1, I1, r1, q1⟩ => ?_) hs rfl))
  obtain ⟨x, ex, q⟩ := q1
  subst ex
  obtain ⟨u, rfl, r⟩ := vals1 r1
  obtain ⟨t, rfl⟩ := r
  refine call_enumerate_str fun h' he hit hsz hkp => wpAny_pyIter_enum he ?_
  have I3 : L2.Inv X pins σ H1 { s1 with heap := h' } := I1.kept (t' := s1.toks) hkp
  refine ⟨s1.heap.objs.size + 1, [s1.heap.objs.size + 1, s1.heap.objs.size], _, _, H1, rfl, I3, turn_enumT x t (s1.heap.objs.size + 1) s1.heap.objs.size, ⟨⟨.none, he⟩, hit, Nat.succ_ne_self _⟩, fun b hb => ?_, q⟩
  have hle : s1.heap.objs.size ≤ b := by
    have e' : b = s1.heap.objs.size + 1 ∨ b = s1.heap.objs.size := by simpa using hb
    rcases e' with z | z
    · rw [z]; exact Nat.le_add_right _ _
    · rw [z]; exact Nat.le_refl _
  exact I1.fpOk hle (I1.hok.fresh hle)
end
theorem walk_enumT {x : Str} : Walk (IteT x) x.cps.size (fun _ => True) (fun i H v H' => ∃ T c, v = .ref T ∧ H T = none ∧ H' = upd H T (.tup [.int (i : Nat), .str ⟨#[c]⟩]) ∧ x.cps[i]? = some c) :=
  ⟨fun _ _ hi _ => hi, fun _ _ => Nat.le_refl _, fun _ _ _ _ _ _ y => y⟩
end Mine

set_option Elab.async false
set_option linter.all false
set_option maxRecDepth 100000
set_option maxHeartbeats 4000000
/-! xs[b:] = ys, ys another list. -/
namespace Mine
open PySem PySem.Spec PyProof.Rows L2
theorem bounds_tail {a n : Nat} (h : a ≤ n) : sliceBounds (some (a : Int)) none none n = ((a : Int), (n : Int), 1) := by
  simp only [sliceBounds, Option.getD_none]
  have h1 : ¬ ((a : Int) < 0) := by omega
  simp only [h1, if_false, show (1 : Int) > 0 by decide, if_true]
  congr 1
  omega
section
variable {prog : Program} {w : World} {A : Around} {E : Value → Shared → Prop} {s : Shared}
theorem setTail {l b sl : Addr} {its new : Array Value} {n n2 : Nat} {vl vu : Value} {a : Nat} {Q : Unit → Shared → Prop}
    (e : s.heap.get? l = some { cls := .type "list", data := .seq its n }) (e2 : s.heap.get? b = some { cls := .type "list", data := .seq new n2 }) (hne : l ≠ b)
    (hs : s.heap.IsSliceOf sl vl vu .none) (pl : IsPart vl (some (a : Int))) (pu : IsPart vu none) (hac : a ≤ its.size) (hsz : its.size + new.size ≤ sizeLine)
    (h : Q () { s with heap := s.heap.update l (Obj.mapSeq fun xs => xs.extract 0 a ++ new ++ xs.extract its.size xs.size) }) : wpAny (model prog w) A (setItem (.ref l) (.ref sl) (.ref b)) Q E s := by
  have ll : s.heap.IsList l its := PySem.IsL.isList e
  have lb : s.heap.IsList b new := PySem.IsL.isList e2
  obtain ⟨os, h1, h2, h3⟩ := id hs
  have ty : s.TypeIs (.ref sl) "slice" := ⟨os, h1, h2⟩
  have two : Builtin.List.listSameRef (.ref l) (.ref b) = false := by
    unfold Builtin.List.listSameRef
    exact beq_eq_false_iff_ne.mpr hne
  have mx : (max (a : Int) (its.size : Int)).toNat = its.size := by omega
  have z1 : ((fun xs : Array Value => xs.extract 0 a ++ new ++ xs.extract its.size xs.size) its).size ≤ sizeLine + 1 := by
    simp only [Array.size_append, Array.size_extract]
    omega
  unfold setItem
  try with_reducible refine wpAny_holding ?_
  first | refine wpAny_bind (wpAny_pure ?_) | skip
  refine wpAny_bind (wpAny_sequenceKey ll.typeIs (by decide) ?_)
  refine wpAny_bind (wpAny_callSpecial?_slot (name := Str.ofString "__setitem__") ll.typeIs F.slot_list_setitem (wpAny_call_entry F.slot_list_setitem ll.typeIs F.entry_list_setitem ?q1 (F.args_list_setitem_3 _ _ _)))
  case q1 =>
    show wpAny _ _ (Builtin.List.listSubscript? (.ref sl) >>= _) _ _ s
    refine wpAny_bind ?_
    unfold Builtin.List.listSubscript?
    refine wpAny_bind (wpAny_specialOf ty slice_no_index ?_)
    simp only [Option.isNone_none, if_true]
    refine wpAny_pure ?_
    show wpAny _ _ (typeOf (.ref sl) >>= _) _ _ s
    refine wpAny_bind (wpAny_typeOf ty ?_)
    first
      | rw [if_neg (by decide)]
      | refine PySem.W.KFB.if_not (by decide) ?_
    rw [listSliceParts_eq]
    refine wpAny_bind (wpAny_bind (wpAny_field h1 h3 (x := .none) rfl (wpAny_bind (wpAny_listPart .none ?_))))
    rw [if_neg (show ¬ ((rawPart none == rawInt 0) = true) from Bool.false_ne_true)]
    refine wpAny_bind (wpAny_field h1 h3 (x := vl) rfl (wpAny_bind (wpAny_listPart pl ?_)))
    refine wpAny_bind (wpAny_field h1 h3 (x := vu) rfl (wpAny_bind (wpAny_listPart pu (wpAny_pure ?_))))
    first
      | simp only [two, Bool.false_eq_true, if_false]
      | refine PySem.W.KFB.if_not two ?_
      | (dsimp only
         rw [if_neg (by rw [two]; exact Bool.false_ne_true)])
    refine wpAny_bind (m := Builtin.List.listAllItems (.ref b) "must assign iterable to extended slice") ?_
    unfold Builtin.List.listAllItems
    refine wpAny_bind (wpAny_typeOf lb.typeIs ?_)
    first
      | refine PySem.W.KFB.if_so (by decide) ?_
      | rw [if_pos (by decide)]
    unfold Builtin.List.listItems
    refine wpAny_bind (wpAny_seqItems e2 rfl (wpAny_pure ?_))
    refine wpAny_bind (wpAny_bind (wpAny_seqItems e rfl (wpAny_pure ?_)))
    refine wpAny_bind (wpAny_of_eq ((sliceIndices_raw (some (a : Int)) none none its.size (by simp)).trans (congrArg (pure : Int × Int × Int → Sem (Int × Int × Int)) (bounds_tail hac))) ?_)
    show wpAny _ _ (if ((1 : Int) == 1) = true then _ else _) _ _ s
    rw [if_pos (by decide)]
    refine wpAny_bind (wpAny_rule ?_)
    first
      | simp only [notLongL hsz, Bool.false_eq_true, if_false]
      | refine PySem.W.KFB.if_not (notLongL hsz) ?_
    first | refine wpAny_bind (wpAny_pure ?_) | skip
    show wpAny _ _ (updateSeq l (fun xs => xs.extract 0 ((a : Int)).toNat ++ new ++ xs.extract (max (a : Int) (its.size : Int)).toNat xs.size) >>= _) _ _ s
    rw [mx, Int.toNat_natCast]
    refine wpAny_bind (wpAny_updateSeq (hz := Nat.le_trans (Nat.le_add_right _ _) hsz) (_hz' := z1) e rfl ?_)
    refine wpAny_bind (wpAny_letGo ?_)
    first
      | exact wpAny_bind (wpAny_pure (wpAny_pure ⟨.none, rfl, wpAny_pure h⟩))
      | exact wpAny_pure ⟨.none, rfl, wpAny_pure h⟩
end
section
variable {X : Cx}
def gTail (to ti : TE) : TG := fun v σ H Q => to σ H fun o H1 => tPart ti σ H1 fun i H2 => ∃ (l b : Addr) (c : Nat) (xs ys : List V), o = .ref l ∧ i = some (c : Int) ∧ v = .ref b ∧ H2 l = some (.lst xs) ∧ H2 b = some (.lst ys) ∧ l ≠ b ∧ c ≤ xs.length ∧ xs.length + ys.length ≤ sizeLine ∧ Q σ (upd H2 l (.lst (xs.take c ++ ys)))
theorem pg_tail {o i : Expr} {to ti : TE} {p2 pos : Pos} (ho : PE X o to) (hi : PE X i ti)
    (ha : ∀ v, assign (.Subscript o (.Slice (some i) none none p2) pos) X.env v = (do
      let ov ← holding [v] (eval o X.env)
      let iv ← holding [v, ov] (eval (.Slice (some i) none none p2) X.env)
      standAt pos
      holding [v, ov, iv] (setItem ov iv v)
      release [iv, v, ov] []) := by intro _; rfl) : PG X (.Subscript o (.Slice (some i) none none p2) pos) (gTail to ti) := by
  refine ⟨fun pins s σ H v u Q I r h => ?_⟩
  rw [ha]
  refine wpAny_bind (wpAny_holding (thn (ho.run pins s σ H _ I h) fun ov s1 ⟨x, H1, I1, r1, q1⟩ => ?_))
  refine wpAny_bind (wpAny_holding (wpAny_Slice (thn ((po_some hi).run pins s1 σ H1 _ I1 q1) fun vl s2 ⟨lo, H2, I2, pl, q2⟩ => ?_)))
  refine thn (po_none.run pins s2 σ H2 (fun o H3 => o = none ∧ H3 = H2) I2 ⟨rfl, rfl⟩) fun vu s3 ⟨hi', H3, I3, pu, e3, e4⟩ => ?_
  subst e3 e4
  refine thn (po_none.run pins s3 σ H3 (fun o H4 => o = none ∧ H4 = H3) I3 ⟨rfl, rfl⟩) fun vs s4 ⟨st, H4, I4, ps, e5, e6⟩ => ?_
  subst e5 e6
  cases ps
  obtain ⟨l, b, c, xs, ys, e1, e2, e3, hl, hb, ne, cl, fit, q⟩ := q2
  subst e1 e2 e3
  cases r1
  cases r
  have I5 : L2.Inv X pins σ H4 { s4 with heap := s4.heap.push { cls := .type "slice", data := .fields #[vl, vu, .none] } } := I4.kept (t' := s4.toks) fun b ob q => Heap.get?_push_of_some _ q
  obtain ⟨z, its, n, rx, pla, e⟩ := I5.lstM hl
  obtain ⟨z2, its2, n2, ry, plb, e'⟩ := I5.lstM hb
  have lx := rx.length
  have ly := ry.length
  refine wpAny_bind (wpAny_standAt (wpAny_bind (wpAny_holding ?_)))
  refine setTail (a := c) e e' ne (Heap.IsSliceOf.new _ vl vu .none) pl pu (by rw [List.size_toArray]; omega) (by rw [List.size_toArray, List.size_toArray]; omega) (wpAny_release ⟨σ, _, I5.lset (its' := its.take c ++ its2) (t' := s4.toks) hl e ?_ (Vals.append (rx.take _) ry) ?_, q⟩)
  · have z := splice_eq its its2 c its.toArray.size
    rw [List.size_toArray, List.drop_length, List.append_nil] at z
    exact z
  · rw [List.length_append, List.length_take]
    omega
end
end Mine

set_option Elab.async false
set_option linter.all false
set_option maxRecDepth 100000
set_option maxHeartbeats 4000000
/-! C.m(k1 = .., k2 = ..) of a classmethod with two parameters beside the class, named the other way round. -/
namespace Mine
open PySem PySem.Spec PyProof.Rows L2 ClX
section
variable {X : Cx} {k : Nat} {C p g : Addr} {mc : Value} {sp : L2.Sp} {fd : FuncData} {ps : List Str} {m k1 k2 : Str} {pos apos : Pos} {o : Expr} {kws : List Keyword} {ta : TE} {tk : TA}
def tCMethK2 (C : Addr) (sp : L2.Sp) (ta : TE) (tk : TA) : TE := fun σ H Q => ta σ H fun x H1 => x = .ref C ∧ tk σ H1 fun zs H2 => ∃ u v, zs = [u, v] ∧ sp [.ref C, v, u] H2 Q E0
theorem pe_cmethK2 {pl : Sem Bool} (he : PE X o ta) (r : CRead X.K C mc) (c : CMet X.K C mc m p g) (F : FnOk X.prog X.w X.K X.mg X.base CX0 k g fd ps sp) (hr : Room k X.A)
    (hb : ∀ (s : Shared) (a u v : Value), BindsTo s fd ⟨[a], [(k1, u), (k2, v)]⟩ (ps.zip [a, v, u])) (hkw : PK X kws tk)
    (hall : (backToKw pos (keywordEach kws X.env)).all (·.1.isSome) = true := by rfl) (hks : (backToKw pos (keywordEach kws X.env)).filterMap (·.1) = [k1, k2] := by rfl)
    (hpl : ((backTo pos (starEach [] X.env)).any (·.1) || (backToKw pos (keywordEach kws X.env)).any (·.1.isNone)) = false := by rfl)
    (ht : eval (.Call (.Attribute o m apos) [] kws pos) X.env = (do
      let ov ← eval o X.env
      standAt apos.atName
      let (f, first) ← holding [ov] (getMethod ov m pl)
      callWith pos f first (backTo pos (starEach [] X.env)) (backToKw pos (keywordEach kws X.env))) := by rfl) :
    PE X (.Call (.Attribute o m apos) [] kws pos) (tCMethK2 C sp ta tk) := by
  refine ⟨fun pins s σ H Q I h => ?_⟩
  refine PySem.W.methodCall_KW (pl := pl) (thn (he.run pins s σ H _ I h) fun u s1 ⟨x, H1, I1, rx, ex, q⟩ => ?_) ht
  subst ex
  obtain rfl : u = Value.ref C := rx
  refine getmethcm_ok I1 r c fun s2 I2 => ?_
  refine PySem.W.callWith_of hpl (PySem.W.keeps_M (K := X.K) (self := .ref C) c.fi) (evalArgs_kw2_nil hall ?_)
  refine thn (hkw.run pos _ s2 σ H1 _ I2 q) fun ws s3 ⟨zs, H2, I3, rz, uu, vv, ez, q2⟩ => ⟨⟨pin_at I3, I3.kIn⟩, ?_⟩
  subst ez
  obtain ⟨w1, w2, ew, r1, r2⟩ := vals2 rz
  subst ew
  rw [hks]
  show wpAny _ _ (call (.ref _) [] [(k1, w1), (k2, w2)]) _ _ _
  have z : wpAny (model X.prog X.w) X.A (call (.ref s1.heap.objs.size) [] [(k1, w1), (k2, w2)]) (EP X ((s1.heap.objs.size, PySem.W.methodObj (.ref g) (.ref C)) :: pins) σ Q) X.xe s3 := by
    refine wpAny_call (PySem.W.method_call (pin_at I3) (codeAny_mono (F.run X.A X.stack s3 H2 ⟨[.ref C], [(k1, w1), (k2, w2)]⟩ [.ref C, w2, w1] [.ref C, vv, uu] Q E0 hr I3.env0 (hb s3 (.ref C) w1 w2) (.cons rfl (.cons r2 (.cons r1 .nil))) q2) fun r s' hq => ?_))
    cases r with
    | error e => exact pass0 _ σ H2 s3 e s' I3 hq
    | ok fl =>
      cases fl with
      | ret u => exact I3.after hq
      | next => exact False.elim hq
      | brk => exact False.elim hq
      | cont => exact False.elim hq
  exact thn z fun _ _ y => unpinE y
end
end Mine

set_option Elab.async false
set_option linter.all false
set_option maxRecDepth 100000
set_option maxHeartbeats 4000000
/-! The deck: its cells, the mixed number, how many draws; a draw lies below what is asked. -/
namespace K12
open PySem PySem.Spec PyProof.Rows L2 Mine
def top (i : Nat) : Stmt := PySem.Challenge.pw_sealedalike_k12_the_standard_book.main.body.getD i (.Pass ⟨0, 0, 0, 0⟩)
abbrev sDeck : Stmt := top 52
abbrev sDraw : Stmt := top 53
def deckD (dl : Addr) (m t : Int) : List (Key × V) := [(Sum.inr (PySem.Str.ofString "cells"), .ref dl), (Sum.inr (PySem.Str.ofString "mixed"), .int m), (Sum.inr (PySem.Str.ofString "draws"), .int t)]
theorem neCM : ¬ (Sum.inr (PySem.Str.ofString "cells") : Key) = Sum.inr (PySem.Str.ofString "mixed") := by decide +kernel
theorem neCD : ¬ (Sum.inr (PySem.Str.ofString "cells") : Key) = Sum.inr (PySem.Str.ofString "draws") := by decide +kernel
theorem neMD : ¬ (Sum.inr (PySem.Str.ofString "mixed") : Key) = Sum.inr (PySem.Str.ofString "draws") := by decide +kernel
theorem vC {dl : Addr} {m t : Int} : valV (deckD dl m t) (Sum.inr (PySem.Str.ofString "cells")) = some (.ref dl) := valV_pos rfl
theorem vM {dl : Addr} {m t : Int} : valV (deckD dl m t) (Sum.inr (PySem.Str.ofString "mixed")) = some (.int m) := (valV_neg neCM).trans (valV_pos rfl)
theorem vD {dl : Addr} {m t : Int} : valV (deckD dl m t) (Sum.inr (PySem.Str.ofString "draws")) = some (.int t) := (valV_neg neCD).trans ((valV_neg neMD).trans (valV_pos rfl))
theorem pD {dl : Addr} {m t u : Int} : putK (deckD dl m t) (Sum.inr (PySem.Str.ofString "draws")) (.int u) = deckD dl m u := by
  have h1 := neCD
  have h2 := neMD
  have e1 : ¬ PySem.Str.ofString "cells" = PySem.Str.ofString "draws" := fun q => h1 (congrArg Sum.inr q)
  have e2 : ¬ PySem.Str.ofString "mixed" = PySem.Str.ofString "draws" := fun q => h2 (congrArg Sum.inr q)
  unfold putK deckD
  simp [e1, e2]
theorem gC {H : Hp} {dk dl : Addr} {m t : Int} (h : H dk = some (.dK (deckD dl m t))) : DGet H dk (.str (PySem.Str.ofString "cells")) (some (.ref dl)) := by
  have q := DGet.k (k := Sum.inr (PySem.Str.ofString "cells")) h
  rw [vC] at q
  exact q
theorem gM {H : Hp} {dk dl : Addr} {m t : Int} (h : H dk = some (.dK (deckD dl m t))) : DGet H dk (.str (PySem.Str.ofString "mixed")) (some (.int m)) := by
  have q := DGet.k (k := Sum.inr (PySem.Str.ofString "mixed")) h
  rw [vM] at q
  exact q
theorem gD {H : Hp} {dk dl : Addr} {m t : Int} (h : H dk = some (.dK (deckD dl m t))) : DGet H dk (.str (PySem.Str.ofString "draws")) (some (.int t)) := by
  have q := DGet.k (k := Sum.inr (PySem.Str.ofString "draws")) h
  rw [vD] at q
  exact q
theorem ppD {H : Hp} {dk dl : Addr} {m t u : Int} (h : H dk = some (.dK (deckD dl m t))) : DPut H dk (.str (PySem.Str.ofString "draws")) (.int u) (upd H dk (.dK (deckD dl m u))) := by
  have q := DPut.k (k := Sum.inr (PySem.Str.ofString "draws")) (v := .int u) h (by show 3 < sizeLine; decide)
  rw [pD] at q
  exact q
/-- the deck stands at dk, its cells at dl, after t draws -/
structure DeckAt (H : Hp) (dk dl : Addr) (t : Int) : Prop where
  d : ∃ m, H dk = some (.dK (deckD dl m t)) ∧ 0 ≤ m ∧ m < 2147483587
  l : ∃ cs : List Int, H dl = some (.lst (cs.map V.int)) ∧ cs.length ≤ 63
/-- all but the deck stands -/
def Keep (dk dl : Addr) (H H' : Hp) : Prop := ∀ b o, b ≠ dk → b ≠ dl → H b = some o → H' b = some o
def spDraw : Sp := fun vs H Q _ => ∃ (dk dl : Addr) (b t : Int), vs = [.ref dk, .int b] ∧ DeckAt H dk dl t ∧ 1 ≤ b ∧ b ≤ 1000 ∧ 0 ≤ t ∧ t ≤ 100000 ∧
  ∀ (r : Int) (H' : Hp), 0 ≤ r → r < b → DeckAt H' dk dl (t + 1) → Keep dk dl H H' → Q (.int r) H'
structure TxtD (mg : Str → Option Value) : Prop where
  int : mg "int" = none
  lst : mg "list" = none
theorem ints_dp {H : Hp} {K : PySem.W.Frag} : ∀ cs : List Int, DpAll K H (cs.map V.int) (cs.map PyData.int)
  | [] => .nil
  | c :: cs => .cons (.int c) (ints_dp cs)
theorem ints_lay : ∀ cs : List Int, PyData.canLayAll0 (cs.map PyData.int) = true
  | [] => by simp [PyData.canLayAll0]
  | c :: cs => by simp [PyData.canLayAll0, PyData.canLay0, ints_lay cs]
theorem ints_dep : ∀ cs : List Int, PyData.depthAll (cs.map PyData.int) = 0
  | [] => by simp [PyData.depthAll]
  | c :: cs => by simp [PyData.depthAll, PyData.depth, ints_dep cs]
theorem ints_shaped (cs : List Int) : SeqAt.shaped (.list (cs.map PyData.int)) = true := by
  show (PyData.canLay0 (.list (cs.map PyData.int)) && decide (PyData.depth (.list (cs.map PyData.int)) ≤ 64)) = true
  rw [Bool.and_eq_true]
  refine ⟨by simp only [PyData.canLay0]; exact ints_lay cs, decide_eq_true ?_⟩
  simp only [PyData.depth, ints_dep]
  decide
section
variable {P : Program} {w : World} {K : PySem.W.Frag} {mg : Str → Option Value} {base : Heap}
theorem scDraw : FnScope ["_law_deck_here", "_law_below", "_law_turn", "_law_cell", "_law_figure"] ["_law_deck_here", "_law_below"] (defScope sDraw) := ⟨rfl, rfl, rfl, by decide +kernel, rfl, by decide +kernel, by decide +kernel⟩
theorem ok_draw {f : Addr} {fd : FuncData} (F : Fun K "_law_draw" "_law_draw" sDraw f fd) (T : TxtD mg) : FnOk P w K mg base CX0 1 f fd ["_law_deck_here", "_law_below"] spDraw := by
  refine F.ok scDraw (fun vs H Q E h => ?_) (fun cdv A outer s H vs Q E hr h => ?_)
  · obtain ⟨dk, dl, b, t, rfl, _⟩ := h
    rfl
  · obtain ⟨dk, dl, b, t, rfl, ⟨⟨m, hd, m0, m1⟩, ⟨cs, hl, hcs⟩⟩, b1, b2, t0, t1, k⟩ := h
    have hu := hu_of hr
    have ne : dk ≠ dl := ne_of hd hl (by intro z; cases z)
    have em : ∀ (i j : Int), 0 < j → 0 ≤ i % j ∧ i % j < j := fun i j h => ⟨Int.emod_nonneg i (Int.ne_of_gt h), Int.emod_lt_of_pos i h⟩
    -- the last three statements
    have tail : ∃ tl, PSs (cxOf CX0 P w K mg base ["_law_deck_here", "_law_below", "_law_turn", "_law_cell", "_law_figure"] "_law_draw" (defScope sDraw) f cdv A outer s H E).nox ((defBody sDraw).drop 3) tl ∧
        ∀ (c : Int) (v : Option V) (H2 : Hp), DeckAt H2 dk dl (t + 1) → Keep dk dl H H2 → tl { nx := fun _ H' => Q .non H', rt := Q } [some (.ref dk), some (.int b), some (.int (t + 1)), some (.int c), v] H2 := by
      refine ⟨_, pss_cons (ps_set (i := 4) scDraw.nd rfl (.inl rfl) (pe_op op_mod (pe_op op_mul (pe_callTy call_int1 (by rfl) T.int (by decide +kernel) (pa_cons (pe_op op_add (pe_op op_add (pe_op op_mod (pe_callTy call_int1 (by rfl) T.int (by decide +kernel) (pa_cons (pv 3) pa_nil)) pe_int) (pe_op op_mul (pe_op op_mul pe_int (pv 2)) (pv 2))) pe_int) pa_nil)) pe_int) pe_int))
        (pss_cons (ps_set (i := 4) scDraw.nd rfl (.inl rfl) (pe_op op_mod (pe_callTy call_int1 (by rfl) T.int (by decide +kernel) (pa_cons (pe_op op_add (pe_op op_add (pe_op op_mul (pv 4) (pv 4)) (pe_op op_mul pe_int (pv 2))) pe_int) pa_nil)) pe_int))
        (pss_one (ps_ret (pe_op op_mod (pe_op op_fdiv (pe_op op_mod (pe_callTy call_int1 (by rfl) T.int (by decide +kernel) (pa_cons (pe_op op_mul (pv 4) pe_int) pa_nil)) pe_int) pe_int) (pv 1))))), ?_⟩
      intro c v H2 hD hK
      have u1 : CMul 60724 (t + 1) := .inl ⟨by decide, by decide⟩
      refine ⟨_, rfl, .inl ⟨_, rfl, _, _, rfl, rfl, (by decide : (0 : Int) < 2147483629), _, rfl, _, _, rfl, rfl, u1, _, rfl, _, _, rfl, rfl, .inr ⟨by omega, by omega⟩, _, _, rfl, rfl, _, _, rfl, rfl, .inl ⟨_, rfl, _, _, rfl, rfl, .inr ⟨by decide, by decide⟩, _, _, rfl, rfl, (by decide : (0 : Int) < 2147483647), ?_⟩⟩⟩
      have b3 := em ((c % 2147483629 + 60724 * (t + 1) * (t + 1) + 135) * 40692) 2147483647 (by decide)
      refine ⟨_, rfl, _, rfl, _, _, rfl, rfl, .inl ⟨Int.lt_of_lt_of_le (by decide) b3.1, Int.lt_trans b3.2 (by decide)⟩, _, rfl, _, _, rfl, rfl, .inl ⟨by decide, by decide⟩, _, _, rfl, rfl, _, _, rfl, rfl, .inl ⟨_, rfl, _, _, rfl, rfl, (by decide : (0 : Int) < 2147483579), ?_⟩⟩
      refine ⟨_, rfl, _, _, rfl, rfl, .inr ⟨by decide, by decide⟩, .inl ⟨_, rfl, _, _, rfl, rfl, (by decide : (0 : Int) < 2147483563), _, _, rfl, rfl, ⟨by decide, by decide⟩, _, rfl, _, _, rfl, rfl, (by omega : (0 : Int) < b), ?_⟩⟩
      exact k _ _ (em _ b (by omega)).1 (em _ b (by omega)).2 hD hK
    obtain ⟨tl, htl, ptl⟩ := tail
    refine ⟨_, pss_cons (ps_dput hu (pv 0) pe_str (pe_op op_add (pe_dget hu (pv 0) pe_str (fun _ _ => rfl)) pe_int) rfl)
      (pss_cons (ps_par (i := 2) (j := 3) rfl scDraw.nd rfl rfl (by decide) rfl rfl (pa_cons (pe_dget hu (pv 0) pe_str (fun _ _ => rfl)) (pa_cons (pe_dget hu (pv 0) pe_str (fun _ _ => rfl)) pa_nil)) (by rfl))
      (pss_cons (ps_if (pt_cmpR (op_neD hr.units) (pe_dget hu (pv 0) pe_str (fun _ _ => rfl)) (pe_lst pa_nil) (nomark _))
        (pss_cons (ps_set (i := 3) scDraw.nd rfl (.inl rfl) (pe_bm0 PySem.F.plainAttrs_list PySem.F.slot_list_pop PySem.F.type_list_pop mt_pop (pe_dget hu (pv 0) pe_str (fun _ _ => rfl))))
        (pss_cons (ps_if (pt_cmpR op_ge (pv 3) (pe_op op_pow pe_int pe_int) (nomark _))
          (pss_cons (ps_expr (pe_bm PySem.F.plainAttrs_list PySem.F.slot_list_append PySem.F.type_list_append mt_append (pe_dget hu (pv 0) pe_str (fun _ _ => rfl)) (pa_cons (pe_op op_fdiv (pv 3) (pv 1)) pa_nil)))
          (pss_one (ps_ret (pe_op op_mod (pe_callTy call_int1 (by rfl) T.int (by decide +kernel) (pa_cons (pv 3) pa_nil)) (pv 1))))) pss_nil)
        (pss_one (ps_set (i := 3) scDraw.nd rfl (.inl rfl) (pe_op op_add (pe_callTy call_int1 (by rfl) T.int (by decide +kernel) (pa_cons (pv 3) pa_nil)) (pe_dget hu (pv 0) pe_str (fun _ _ => rfl))))))) pss_nil)
      htl)), ?_⟩
    refine ⟨_, rfl, dk, _, rfl, gD hd, _, _, rfl, rfl, _, rfl, dk, _, rfl, ppD hd, ?_⟩
    have hd1 : upd H dk (.dK (deckD dl m (t + 1))) dk = some (.dK (deckD dl m (t + 1))) := upd_same
    have hl1 : upd H dk (.dK (deckD dl m (t + 1))) dl = some (.lst (cs.map V.int)) := (upd_ne ne.symm).trans hl
    have k1 : Keep dk dl H (upd H dk (.dK (deckD dl m (t + 1)))) := fun c o h1 _ e => (upd_ne h1).trans e
    generalize upd H dk (.dK (deckD dl m (t + 1))) = H1 at hd1 hl1 k1
    refine ⟨_, rfl, dk, _, rfl, gD hd1, _, rfl, dk, _, rfl, gM hd1, _, _, rfl, ?_⟩
    refine ⟨_, rfl, dk, _, rfl, gC hd1, (by show 0 ≤ sizeLine; exact Nat.zero_le _), fun p hp => ?_⟩
    have np : ∀ {b : Addr} {o : HO}, H1 b = some o → b ≠ p := fun e => ne_of_none e hp
    have kp : Keep dk dl H (upd H1 p (.lst [])) := fun c o h1 h2 e => (upd_ne (np (k1 c o h1 h2 e))).trans (k1 c o h1 h2 e)
    have hd2 : upd H1 p (.lst []) dk = _ := (upd_ne (np hd1)).trans hd1
    have hl2 : upd H1 p (.lst []) dl = _ := (upd_ne (np hl1)).trans hl1
    have hp2 : upd H1 p (.lst []) p = some (.lst []) := upd_same
    generalize upd H1 p (.lst []) = H2 at kp hd2 hl2 hp2
    refine ⟨_, _, .lst (.inl (.inl hl2)) (ints_dp cs), .lst (.inl (.inl hp2)) .nil, ints_shaped cs, rfl, _, rfl, ?_⟩
    cases cs with
    | nil =>
      refine iteF ?_
      exact ptl m none H2 ⟨⟨m, hd2, m0, m1⟩, ⟨[], hl2, Nat.zero_le _⟩⟩ kp
    | cons c0 cr =>
      refine iteT ?_
      obtain ⟨z, hz⟩ : ∃ z, ((c0 :: cr).map V.int)[((c0 :: cr).map V.int).length - 1]? = some (V.int z) := by
        refine ⟨(c0 :: cr).getLast (List.cons_ne_nil _ _), ?_⟩
        rw [List.length_map, List.getElem?_map, ← List.getLast?_eq_getElem?]
        rfl
      have hdrop : ((c0 :: cr).map V.int).dropLast = (c0 :: cr).dropLast.map V.int := (List.map_dropLast).symm
      have hlen : (c0 :: cr).dropLast.length ≤ 62 := by
        rw [List.length_dropLast]
        omega
      refine ⟨_, rfl, dk, _, rfl, gC hd2, .inl ⟨rfl, _, .inl (.inl hl2)⟩, dl, _, _, rfl, rfl, hl2, hz, ?_⟩
      rw [hdrop]
      have hd3 : upd H2 dl (.lst ((c0 :: cr).dropLast.map V.int)) dk = _ := (upd_ne ne).trans hd2
      have hl3 : upd H2 dl (.lst ((c0 :: cr).dropLast.map V.int)) dl = _ := upd_same
      have k3 : Keep dk dl H (upd H2 dl (.lst ((c0 :: cr).dropLast.map V.int))) := fun c o h1 h2 e => (upd_ne h2).trans (kp c o h1 h2 e)
      generalize (c0 :: cr).dropLast = dr at hd3 hl3 k3 hlen
      generalize upd H2 dl (.lst (dr.map V.int)) = H3 at hd3 hl3 k3
      refine ⟨_, rfl, _, _, rfl, rfl, ⟨by decide, by decide, by decide⟩, _, _, rfl, rfl, _, rfl, ?_⟩
      refine ite2 (fun _ => ?_) (fun _ => ?_)
      · refine ⟨_, rfl, dk, _, rfl, gC hd3, .inl ⟨rfl, _, .inl (.inl hl3)⟩, _, rfl, _, rfl, _, _, rfl, rfl, ⟨by omega, by omega⟩, dl, _, _, rfl, rfl, hl3, ?_, ?_⟩
        · show (dr.map V.int).length < sizeLine
          rw [List.length_map, sizeLine_eq]
          omega
        · refine ⟨_, rfl, .inl ⟨_, rfl, _, rfl, _, _, rfl, rfl, (by omega : (0 : Int) < b), ?_⟩⟩
          refine k _ _ (em z b (by omega)).1 (em z b (by omega)).2 ⟨⟨m, (upd_ne ne).trans hd3, m0, m1⟩, ⟨dr ++ [z / b], ?_, ?_⟩⟩ fun c o h1 h2 e => (upd_ne h2).trans (k3 c o h1 h2 e)
          · rw [upd_same, List.map_append]
            rfl
          · rw [List.length_append]
            show dr.length + 1 ≤ 63
            omega
      · refine ⟨_, rfl, .inl ⟨_, rfl, _, rfl, dk, _, rfl, gM hd3, _, _, rfl, rfl, ?_⟩⟩
        exact ptl (z + m) none H3 ⟨⟨m, hd3, m0, m1⟩, ⟨dr, hl3, by omega⟩⟩ k3
end
end K12

set_option Elab.async false
set_option linter.all false
set_option maxRecDepth 100000
set_option maxHeartbeats 4000000
/-! The deck is made of the script. -/
namespace K12
open PySem PySem.Spec PyProof.Rows L2 Mine
def spDeck (K : PySem.W.Frag) : Sp := fun vs H Q _ => ∃ (a : Addr) (ns : List Int), vs = [.ref a] ∧ SqL K H a (ns.map V.int) ∧ ns.length ≤ 63 ∧
  ∀ (dk dl : Addr) (H' : Hp), Same H H' → H dk = none → H dl = none → DeckAt H' dk dl 0 → Q (.ref dk) H'
theorem merged {dl : Addr} {m : Int} : mergeK [] (deckD dl m 0) = deckD dl m 0 := by
  have e1 : ¬ PySem.Str.ofString "cells" = PySem.Str.ofString "mixed" := fun q => neCM (congrArg Sum.inr q)
  have e2 : ¬ PySem.Str.ofString "cells" = PySem.Str.ofString "draws" := fun q => neCD (congrArg Sum.inr q)
  have e3 : ¬ PySem.Str.ofString "mixed" = PySem.Str.ofString "draws" := fun q => neMD (congrArg Sum.inr q)
  simp [mergeK, deckD, putK, e1, e2, e3]
theorem same_new {H H1 : Hp} {p : Addr} {o : HO} (h : Same H H1) (hp : H1 p = none) : Same H (upd H1 p o) := fun b u e => (upd_ne (ne_of_none (h b u e) hp)).trans (h b u e)
section
variable {P : Program} {w : World} {K : PySem.W.Frag} {mg : Str → Option Value} {base : Heap}
theorem scDeck : FnScope ["_law_script", "_law_cells", "_law_mixed", "_law_cell"] ["_law_script"] (defScope sDeck) := ⟨rfl, rfl, rfl, by decide +kernel, rfl, by decide +kernel, by decide +kernel⟩
theorem ok_deck {f : Addr} {fd : FuncData} (F : Fun K "_law_deck" "_law_deck" sDeck f fd) (T : TxtD mg) : FnOk P w K mg base CX0 1 f fd ["_law_script"] (spDeck K) := by
  refine F.ok scDeck (fun vs H Q E h => ?_) (fun cdv A outer s H vs Q E hr h => ?_)
  · obtain ⟨a, ns, rfl, _⟩ := h
    rfl
  · obtain ⟨a, ns, rfl, hS, hlen, k⟩ := h
    have em : ∀ (i j : Int), 0 < j → 0 ≤ i % j ∧ i % j < j := fun i j h => ⟨Int.emod_nonneg i (Int.ne_of_gt h), Int.emod_lt_of_pos i h⟩
    refine ⟨_, pss_cons (ps_par (i := 1) (j := 2) rfl scDeck.nd rfl rfl (by decide) rfl rfl (pa_cons (pe_callTy call_list_of (by rfl) T.lst (by decide +kernel) (pa_cons (pe_slice sl_list (pv 0) po_none (po_some pe_int)) pa_nil)) (pa_cons pe_int pa_nil)) (by rfl))
      (pss_cons (ps_for PassesOwn.never rfl (pi_list (pv 1)) (pg_name (i := 3) scDeck.nd rfl (.inl rfl))
        (pss_one (ps_set (i := 2) scDeck.nd rfl (.inl rfl) (pe_op op_mod (pe_callTy call_int1 (by rfl) T.int (by decide +kernel) (pa_cons (pe_op op_add (pe_op op_add (pe_op op_mul (pv 2) pe_int) (pe_op op_mod (pe_callTy call_int1 (by rfl) T.int (by decide +kernel) (pa_cons (pv 3) pa_nil)) pe_int)) pe_int) pa_nil)) pe_int))))
      (pss_one (ps_ret (pe_disp (pps_cons pe_str (pe_revL (pv 1)) (pps_cons pe_str (pv 2) (pps_cons pe_str pe_int pps_nil))) (by rfl) (by rfl) (fun z => by cases z) (by decide))))), ?_⟩
    refine ⟨_, rfl, _, rfl, a, _, rfl, hS, fun p hp => ⟨p, _, rfl, .inl (SqL.of upd_same), fun l hl => ?_⟩⟩
    obtain ⟨cs, ecs, hcs⟩ : ∃ cs : List Int, cutV (ns.map V.int) none (some 63) = cs.map V.int ∧ cs.length ≤ 63 := by
      refine ⟨(ns.drop (HT.sIx (ns.map V.int).length 0 none)).take (HT.sIx (ns.map V.int).length (ns.map V.int).length (some 63) - HT.sIx (ns.map V.int).length 0 none), ?_, ?_⟩
      · unfold cutV
        rw [List.map_take, List.map_drop]
      · rw [List.length_take, List.length_drop]
        omega
    rw [ecs]
    have s1 : Same H (upd H p (.lst (cs.map V.int))) := same_new (fun _ _ e => e) hp
    have s2 : Same H (upd (upd H p (.lst (cs.map V.int))) l (.lst (cs.map V.int))) := same_new s1 (by rw [← ecs]; exact hl)
    have hl2 : upd (upd H p (.lst (cs.map V.int))) l (.lst (cs.map V.int)) l = some (.lst (cs.map V.int)) := upd_same
    generalize upd (upd H p (.lst (cs.map V.int))) l (.lst (cs.map V.int)) = H1 at s2 hl2
    refine ⟨_, _, rfl, ?_⟩
    refine ⟨_, rfl, l, rfl, ⟨_, .inl (.inl hl2)⟩, for_list (K := K) (a := l) (xs := cs.map V.int) (fun i σ H2 => ∃ (m : Int) (v : Option V), σ = [some (.ref a), some (.ref l), some (.int m), v] ∧ H2 = H1 ∧ 0 ≤ m ∧ m < 2147483587)
      ⟨1085712, none, rfl, rfl, by decide, by decide⟩ (fun i σ H2 _ ⟨_, _, _, e, _⟩ => by rw [e]; exact .inl (.inl hl2)) ?_ ?_⟩
    · rintro i y σ H2 hi ⟨m, v, rfl, rfl, m0, m1⟩
      obtain ⟨z, rfl⟩ : ∃ z, y = V.int z := by
        rw [List.getElem?_map] at hi
        cases e : cs[i]? with
        | none =>
          rw [e] at hi
          cases hi
        | some z =>
          rw [e] at hi
          exact ⟨z, (Option.some.inj hi).symm⟩
      refine ⟨_, rfl, _, _, rfl, rfl, .inr ⟨by decide, by decide⟩, _, rfl, .inl ⟨_, rfl, _, _, rfl, rfl, (by decide : (0 : Int) < 2147483629), _, _, rfl, rfl, _, _, rfl, rfl, .inl ⟨_, rfl, _, _, rfl, rfl, (by decide : (0 : Int) < 2147483587), ?_⟩⟩⟩
      exact ⟨_, _, rfl, rfl, (em _ _ (by decide)).1, (em _ _ (by decide)).2⟩
    · rintro σ H2 ⟨m, v, rfl, rfl, m0, m1⟩
      intro d hd
      have nl : l ≠ d := ne_of_none hl2 hd
      refine ⟨_, rfl, l, _, rfl, .inl (.inl ((upd_ne nl).trans hl2)), fun q hq => ⟨_, rfl, ?_⟩⟩
      have nq : d ≠ q := ne_of_none upd_same hq
      refine ⟨(upd_ne nq).trans upd_same, deckD q m 0, rfl, (by show 3 ≤ 15; decide), ?_⟩
      have fr : ∀ {c : Addr}, H2 c = none → H c = none := fun {c} e => by
        cases z : H c with
        | none => rfl
        | some o =>
          rw [s2 c o z] at e
          cases e
      have hq0 : H2 q = none := (upd_ne nq.symm).symm.trans hq
      rw [merged]
      refine k d q _ (fun b o e => ?_) (fr hd) (fr hq0) ⟨⟨m, upd_same, m0, m1⟩, ⟨cs.reverse, ?_, ?_⟩⟩
      · rw [upd_ne (ne_of_none (s2 b o e) hd), upd_ne (ne_of_none (s2 b o e) hq0), upd_ne (ne_of_none (s2 b o e) hd)]
        exact s2 b o e
      · rw [upd_ne nq.symm, upd_same, List.map_reverse]
      · rw [List.length_reverse]
        exact hcs
end
end K12

set_option Elab.async false
set_option linter.all false
set_option maxRecDepth 100000
set_option maxHeartbeats 4000000
/-! Heaps that keep, new things, data shown; picks and needs. -/
namespace K12
open PySem PySem.Spec PyProof.Rows L2 Mine
/-- what is new in a heap -/
def Nw (H H' : Hp) : Hp := fun b => if H b = none then H' b else none
theorem Nw.at {H H' : Hp} {b : Addr} {o : HO} (h : H b = none) (e : H' b = some o) : Nw H H' b = some o := by
  unfold Nw
  rw [if_pos h]
  exact e
theorem Nw.of {H H' : Hp} {b : Addr} {o : HO} (e : Nw H H' b = some o) : H b = none ∧ H' b = some o := by
  unfold Nw at e
  by_cases h : H b = none
  · rw [if_pos h] at e
    exact ⟨h, e⟩
  · rw [if_neg h] at e
    cases e
theorem Nw.mono {H0 H H' H'' : Hp} (dom : ∀ b, H b = none → H0 b = none) (k : ∀ b o, H b = none → H' b = some o → H'' b = some o) : ∀ b o, Nw H H' b = some o → Nw H0 H'' b = some o := fun b o e =>
  let ⟨h1, h2⟩ := Nw.of e
  Nw.at (dom b h1) (k b o h1 h2)
theorem Keep.trans {dk dl : Addr} {H H1 H2 : Hp} (a : Keep dk dl H H1) (b : Keep dk dl H1 H2) : Keep dk dl H H2 := fun c o h1 h2 e => b c o h1 h2 (a c o h1 h2 e)
theorem Keep.new {dk dl p : Addr} {H H1 : Hp} {o : HO} (a : Keep dk dl H H1) (hp : H1 p = none) : Keep dk dl H (upd H1 p o) := fun c u h1 h2 e => (upd_ne (ne_of_none (a c u h1 h2 e) hp)).trans (a c u h1 h2 e)
theorem Keep.refl {dk dl : Addr} {H : Hp} : Keep dk dl H H := fun _ _ _ _ e => e
theorem DeckAt.new {dk dl p : Addr} {H : Hp} {t : Int} {o : HO} (h : DeckAt H dk dl t) (hp : H p = none) : DeckAt (upd H p o) dk dl t := by
  obtain ⟨⟨m, h1, m0, m1⟩, ⟨cs, h2, l⟩⟩ := h
  exact ⟨⟨m, (upd_ne (ne_of_none h1 hp)).trans h1, m0, m1⟩, ⟨cs, (upd_ne (ne_of_none h2 hp)).trans h2, l⟩⟩
theorem DeckAt.off {dk dl p : Addr} {H : Hp} {t : Int} (h : DeckAt H dk dl t) (hp : H p = none) : p ≠ dk ∧ p ≠ dl := by
  obtain ⟨⟨m, h1, _⟩, ⟨cs, h2, _⟩⟩ := h
  exact ⟨(ne_of_none h1 hp).symm, (ne_of_none h2 hp).symm⟩
theorem DeckAt.dom {dk dl : Addr} {H H' : Hp} {t t' : Int} (h : DeckAt H dk dl t) (h' : DeckAt H' dk dl t') (k : Keep dk dl H H') : ∀ b, H' b = none → H b = none := fun b e => by
  cases z : H b with
  | none => rfl
  | some o =>
    by_cases e1 : b = dk
    · obtain ⟨⟨m, h1, _⟩, _⟩ := h'
      rw [e1, h1] at e
      cases e
    · by_cases e2 : b = dl
      · obtain ⟨_, ⟨cs, h2, _⟩⟩ := h'
        rw [e2, h2] at e
        cases e
      · rw [k b o e1 e2 z] at e
        cases e
/-- what a deed on the deck alone leaves of new things -/
theorem Keep.news {dk dl : Addr} {H H' H'' : Hp} {t : Int} (h : DeckAt H dk dl t) (k : Keep dk dl H' H'') : ∀ b o, H b = none → H' b = some o → H'' b = some o := fun b o n e =>
  let ⟨h1, h2⟩ := h.off n
  k b o h1 h2 e
theorem _root_.Mine.Shows.up {n n' l l' : Nat} {d : PyData} (h : Shows n l d) (h1 : n ≤ n') (h2 : l ≤ l') : Shows n' l' d := ⟨h.ok, Nat.le_trans h.len h1, Nat.le_trans h.dep h2⟩
/-- all of them -/
theorem _root_.Mine.DKs.snoc' {H : Hp} {vs : List V} {ds : List PyData} {v : V} {d : PyData} (a : DKs H vs ds) (h : DK H v d) : DKs H (vs ++ [v]) (ds ++ [d]) := DKs.snoc h a
structure ShowsAll (n l k : Nat) (ds : List PyData) : Prop where
  ok : PyData.showableAll ds = true
  len : ((PyData.shownAll ds).map (·.length)).sum ≤ n * k
  num : (PyData.shownAll ds).length ≤ k
  dep : PyData.depthAll ds ≤ l
theorem ShowsAll.nil {n l : Nat} : ShowsAll n l 0 [] := ⟨by simp [PyData.showableAll], by simp [PyData.shownAll], by simp [PyData.shownAll], by simp [PyData.depthAll]⟩
theorem ShowsAll.snoc {n l k : Nat} {d : PyData} (h : Shows n l d) : ∀ {ds : List PyData}, ShowsAll n l k ds → ShowsAll n l (k + 1) (ds ++ [d]) := fun {ds} a => by
  have ap1 : ∀ xs : List PyData, PyData.showableAll (xs ++ [d]) = (PyData.showableAll xs && d.showable) := fun xs => by
    induction xs with
    | nil => simp [PyData.showableAll]
    | cons x r ih => simp [PyData.showableAll, ih, Bool.and_assoc]
  have ap2 : ∀ xs : List PyData, PyData.shownAll (xs ++ [d]) = PyData.shownAll xs ++ [d.shown] := fun xs => by
    induction xs with
    | nil => simp [PyData.shownAll]
    | cons x r ih => simp [PyData.shownAll, ih]
  have ap3 : ∀ xs : List PyData, PyData.depthAll (xs ++ [d]) = max (PyData.depthAll xs) d.depth := fun xs => by
    induction xs with
    | nil => simp [PyData.depthAll]
    | cons x r ih =>
      simp only [List.cons_append, PyData.depthAll, ih]
      omega
  refine ⟨by rw [ap1, a.ok, h.ok]; rfl, ?_, ?_, ?_⟩
  · rw [ap2, List.map_append, List.sum_append, Nat.mul_succ]
    have := h.len
    have := a.len
    simp only [List.map_cons, List.map_nil, List.sum_cons, List.sum_nil]
    omega
  · rw [ap2, List.length_append]
    have := a.num
    simp only [List.length_cons, List.length_nil]
    omega
  · rw [ap3]
    have := h.dep
    have := a.dep
    omega
theorem ShowsAll.list {n l k : Nat} {ds : List PyData} (a : ShowsAll n l k ds) (hk : k ≤ 3) : Shows (3 * n + 9) (l + 1) (.list ds) := by
  have h1 := listText_len_le (PyData.shownAll ds)
  have h2 : n * k ≤ n * 3 := Nat.mul_le_mul_left n hk
  have h3 := a.len
  have h4 := a.num
  have h5 := a.dep
  exact ⟨by simpa only [PyData.showable] using a.ok, by simp only [PyData.shown]; omega, by simp only [PyData.depth]; omega⟩
theorem ShowsAll.tuple {n l k : Nat} {ds : List PyData} (a : ShowsAll n l k ds) (hk : k ≤ 3) : Shows (3 * n + 9) (l + 1) (.tuple ds) := by
  have h1 := tupleText_len_le (PyData.shownAll ds)
  have h2 : n * k ≤ n * 3 := Nat.mul_le_mul_left n hk
  have h3 := a.len
  have h4 := a.num
  have h5 := a.dep
  exact ⟨by simpa only [PyData.showable] using a.ok, by simp only [PyData.shown]; omega, by simp only [PyData.depth]; omega⟩
theorem pick {xs : List V} {r : Int} (h0 : 0 ≤ r) (h1 : r < (xs.length : Int)) : ∃ y, y ∈ xs ∧ atI xs r = some y := by
  obtain ⟨j, rfl⟩ := Int.eq_ofNat_of_zero_le h0
  have hj : j < xs.length := by omega
  exact ⟨xs[j], List.getElem_mem hj, atI_nat (List.getElem?_eq_getElem hj)⟩
theorem same_rfl {H : Hp} : Same H H := fun _ _ e => e
theorem same_tr {H H1 H2 : Hp} (a : Same H H1) (b : Same H1 H2) : Same H H2 := fun p o e => b p o (a p o e)
theorem same_free {H H' : Hp} (k : Same H H') {b : Addr} (e : H' b = none) : H b = none := by
  cases z : H b with
  | none => rfl
  | some o =>
    rw [k b o z] at e
    cases e

end K12

set_option Elab.async false
set_option linter.all false
set_option maxRecDepth 100000
set_option maxHeartbeats 4000000
/-! A pick out of a list; a need. -/
namespace K12
open PySem PySem.Spec PyProof.Rows L2 Mine
abbrev sPick : Stmt := top 54
mutual
theorem dk_dp {H : Hp} (K : PySem.W.Frag) : ∀ (d : PyData) (v : V), DK H v d → d.canLay0 = true → Dp K H v d
  | .none, _, h, _ => by cases h; exact .non
  | .bool b, _, h, _ => by cases h; exact .bl b
  | .int i, _, h, _ => by cases h; exact .int i
  | .str x, _, h, _ => by cases h; exact .str x
  | .list ds, _, h, c => by
    cases h with
    | lst e r => exact .lst (.inl (.inl e)) (dks_dp K ds _ r (by simpa [PyData.canLay0] using c))
  | .tuple ds, _, h, c => by
    cases h with
    | tup e r => exact .tup (.inl (.inl e)) (dks_dp K ds _ r (by simpa [PyData.canLay0] using c))
  | .dict _, _, _, c => by simp [PyData.canLay0] at c
theorem dks_dp {H : Hp} (K : PySem.W.Frag) : ∀ (ds : List PyData) (vs : List V), DKs H vs ds → PyData.canLayAll0 ds = true → DpAll K H vs ds
  | [], _, h, _ => by cases h; exact .nil
  | d :: ds, _, h, c => by
    have c' : d.canLay0 = true ∧ PyData.canLayAll0 ds = true := by simpa [PyData.canLayAll0] using c
    cases h with
    | cons h1 h2 => exact .cons (dk_dp K d _ h1 c'.1) (dks_dp K ds _ h2 c'.2)
end
def spPick : Sp := fun vs H Q _ => ∃ (dk dl s : Addr) (t : Int) (xs : List V), vs = [.ref dk, .ref s] ∧ DeckAt H dk dl t ∧ s ≠ dl ∧ H s = some (.lst xs) ∧ xs ≠ [] ∧ xs.length ≤ 100 ∧ 0 ≤ t ∧ t ≤ 100000 ∧
  ∀ (y : V) (H' : Hp), y ∈ xs → DeckAt H' dk dl (t + 1) → Keep dk dl H H' → Q y H'
structure TxtP (K : PySem.W.Frag) (mg : Str → Option Value) (fD fP : Addr) : Prop extends TxtD mg where
  len : mg "len" = none
  gD : mg "_law_draw" = some (.ref fD)
  kD : PySem.W.keepIn K (.ref fD) = true
  gP : mg "_law_pick" = some (.ref fP)
  kP : PySem.W.keepIn K (.ref fP) = true
/-- a need of a kind of m parts, the kinds of one part being ss -/
def NeedOk (m : Int) (ss : List Str) (d : PyData) : Prop :=
  (∃ j : Int, 0 ≤ j ∧ j < m ∧ d = .tuple [.str (PySem.Str.ofString "part"), .int j]) ∨
  (∃ (c : Str) (j : Int), c ∈ ss ∧ 0 ≤ j ∧ j < m ∧ d = .tuple [.str (PySem.Str.ofString "around"), .str c, .int j]) ∨
  ∃ (c : Str) (j : Int), c ∈ ss ∧ 0 ≤ j ∧ j < m ∧ d = .tuple [.str (PySem.Str.ofString "inside"), .int j, .str c]
def spNeed : Sp := fun vs H Q _ => ∃ (dk dl s : Addr) (t m : Int) (ss : List Str), vs = [.ref dk, .ref s, .int m] ∧ DeckAt H dk dl t ∧ s ≠ dl ∧ H s = some (.lst (ss.map V.str)) ∧ ss.length ≤ 8 ∧ 1 ≤ m ∧ m ≤ 3 ∧ (∀ x ∈ ss, PyData.strOk x = true) ∧ 0 ≤ t ∧ t ≤ 90000 ∧
  ∀ (v : V) (d : PyData) (t' : Int) (H' : Hp), DeckAt H' dk dl t' → t ≤ t' → t' ≤ t + 3 → Keep dk dl H H' → DK (Nw H H') v d → NeedOk m ss d → Q v H'
theorem strs_dp {H : Hp} {K : PySem.W.Frag} : ∀ cs : List Str, DpAll K H (cs.map V.str) (cs.map PyData.str)
  | [] => .nil
  | c :: cs => .cons (.str c) (strs_dp cs)
theorem strs_lay : ∀ cs : List Str, (∀ x ∈ cs, PyData.strOk x = true) → PyData.canLayAll0 (cs.map PyData.str) = true
  | [], _ => by simp [PyData.canLayAll0]
  | c :: cs, h => by
    simp only [List.map_cons, PyData.canLayAll0, PyData.canLay0, Bool.and_eq_true]
    exact ⟨h c (List.mem_cons_self ..), strs_lay cs fun x hx => h x (List.mem_cons_of_mem _ hx)⟩
theorem strs_dep : ∀ cs : List Str, PyData.depthAll (cs.map PyData.str) = 0
  | [] => by simp [PyData.depthAll]
  | c :: cs => by simp [PyData.depthAll, PyData.depth, strs_dep cs]
theorem strs_shaped {cs : List Str} (h : ∀ x ∈ cs, PyData.strOk x = true) : SeqAt.shaped (.list (cs.map PyData.str)) = true := by
  show (PyData.canLay0 (.list (cs.map PyData.str)) && decide (PyData.depth (.list (cs.map PyData.str)) ≤ 64)) = true
  rw [Bool.and_eq_true]
  refine ⟨by simp only [PyData.canLay0]; exact strs_lay cs h, decide_eq_true ?_⟩
  simp only [PyData.depth, strs_dep]
  decide
section
variable {P : Program} {w : World} {K : PySem.W.Frag} {mg : Str → Option Value} {base : Heap}
theorem scPick : FnScope ["_law_deck_here", "_law_some"] ["_law_deck_here", "_law_some"] (defScope sPick) := ⟨rfl, rfl, rfl, by decide +kernel, rfl, by decide +kernel, by decide +kernel⟩
theorem ok_pick {f fD : Addr} {fd fdD : FuncData} (F : Fun K "_law_pick" "_law_pick" sPick f fd) (GD : FnOk P w K mg base CX0 1 fD fdD ["_law_deck_here", "_law_below"] spDraw) (bD : Binds K fdD ["_law_deck_here", "_law_below"] []) (T : TxtP K mg fD f) :
    FnOk P w K mg base CX0 2 f fd ["_law_deck_here", "_law_some"] spPick := by
  refine F.ok scPick (fun vs H Q E h => ?_) (fun cdv A outer s H vs Q E hr h => ?_)
  · obtain ⟨dk, dl, p, t, xs, rfl, _⟩ := h
    rfl
  · obtain ⟨dk, dl, p, t, xs, rfl, hD, hpl, hp, hne, hx, t0, t1, k⟩ := h
    have hu := hu_of hr
    refine ⟨_, pss_one (ps_ret (pe_ix ix_list (pv 1) (pe_call GD hr rfl T.gD T.kD bD .nil pass0 (pa_cons (pv 0) (pa_cons (pe_callB call_len_seq (by rfl) T.len PySem.boot_len (pa_cons (pv 1) pa_nil)) pa_nil))) (fun _ _ => rfl))), ?_⟩
    have pos : 0 < xs.length := by
      cases xs with
      | nil => exact absurd rfl hne
      | cons _ _ => exact Nat.succ_pos _
    refine ⟨_, rfl, _, rfl, _, rfl, p, _, rfl, .inl (SqL.of hp), ?_⟩
    refine ⟨dk, dl, (xs.length : Int), t, rfl, hD, by omega, by omega, t0, t1, fun r H' r0 r1 D' K' => ?_⟩
    have np : p ≠ dk := by
      obtain ⟨⟨m, h1, _⟩, _⟩ := hD
      exact ne_of hp h1 (by intro z; cases z)
    obtain ⟨y, hy, ha⟩ := K12.pick r0 r1
    exact ⟨p, _, _, _, rfl, rfl, SqL.of (K' _ _ np hpl hp), ha, k y H' hy D' K'⟩
end
end K12

set_option Elab.async false
set_option linter.all false
set_option maxRecDepth 100000
set_option maxHeartbeats 4000000
/-! The kinds and openings of a drawn book. -/
namespace K12
open PySem PySem.Spec PyProof.Rows L2 Mine
/-- a list at p that grows, all else but the deck standing -/
structure LI (dk dl p : Addr) (H0 H' : Hp) (vs : List V) (ds : List PyData) : Prop where
  at_ : H' p = some (.lst vs)
  ok : DKs (Nw H0 H') vs ds
  keep : ∀ b x, b ≠ dk → b ≠ dl → b ≠ p → H0 b = some x → H' b = some x
theorem LI.step {dk dl p : Addr} {H0 H' H'' : Hp} {vs : List V} {ds : List PyData} {t : Int} (I : LI dk dl p H0 H' vs ds) (D : DeckAt H0 dk dl t) (h1 : p ≠ dk) (h2 : p ≠ dl) (k : Keep dk dl H' H'') : LI dk dl p H0 H'' vs ds :=
  ⟨k _ _ h1 h2 I.at_, DKs.keeps (Nw.mono (fun _ z => z) (k.news D)) _ _ I.ok, fun b x a1 a2 a3 e => k b x a1 a2 (I.keep b x a1 a2 a3 e)⟩
theorem LI.add {dk dl p : Addr} {H0 H' : Hp} {vs : List V} {ds : List PyData} {v : V} {d : PyData} (I : LI dk dl p H0 H' vs ds) (hp : H0 p ≠ none) (h : DK (Nw H0 H') v d) : LI dk dl p H0 (upd H' p (.lst (vs ++ [v]))) (vs ++ [v]) (ds ++ [d]) := by
  have k : ∀ b o, H0 b = none → H' b = some o → upd H' p (.lst (vs ++ [v])) b = some o := fun b o n e => (upd_ne (fun z => hp (by rw [← z]; exact n))).trans e
  exact ⟨upd_same, (DKs.keeps (Nw.mono (fun _ z => z) k) _ _ I.ok).snoc' (DK.keeps (Nw.mono (fun _ z => z) k) _ _ h), fun b x a1 a2 a3 e => (upd_ne a3).trans (I.keep b x a1 a2 a3 e)⟩
/-- what is new beside H0 is new -/
theorem LI.dom {dk dl p : Addr} {H0 H' : Hp} {vs : List V} {ds : List PyData} {t t' : Int} (I : LI dk dl p H0 H' vs ds) (D : DeckAt H0 dk dl t) (D' : DeckAt H' dk dl t') : ∀ b, H' b = none → H0 b = none := fun b e => by
  cases z : H0 b with
  | none => rfl
  | some o =>
    by_cases e1 : b = dk
    · obtain ⟨⟨m, h1, _⟩, _⟩ := D'
      rw [e1, h1] at e
      cases e
    · by_cases e2 : b = dl
      · obtain ⟨_, ⟨cs, h2, _⟩⟩ := D'
        rw [e2, h2] at e
        cases e
      · by_cases e3 : b = p
        · rw [e3, I.at_] at e
          cases e
        · rw [I.keep b o e1 e2 e3 z] at e
          cases e
def W8 : List Str := [PySem.Str.ofString "box", PySem.Str.ofString "half", PySem.Str.ofString "lock", PySem.Str.ofString "mark", PySem.Str.ofString "pair", PySem.Str.ofString "seal", PySem.Str.ofString "sign", PySem.Str.ofString "zzzzzzzz"]
def W6 : List Str := [PySem.Str.ofString "ahead", PySem.Str.ofString "first", PySem.Str.ofString "look", PySem.Str.ofString "open", PySem.Str.ofString "second", PySem.Str.ofString "undo"]
def kD (p : Str × Int) : PyData := .tuple [.str p.1, .int p.2]
structure Op where
  w : Str
  k : Str
  g : Int
  n : List PyData
def oD (o : Op) : PyData := .tuple [.str o.w, .str o.k, .int o.g, .tuple o.n]
def singles (ks : List (Str × Int)) : List Str := (ks.filter fun p => decide (p.2 = 1)).map (·.1)
structure OpOk (ks : List (Str × Int)) (o : Op) : Prop where
  ex : ∃ m : Int, (o.k, m) ∈ ks ∧ 0 ≤ o.g ∧ o.g < m ∧ o.n.length ≤ 2 ∧ ∀ d ∈ o.n, NeedOk m (singles ks) d
structure KitOk (ks : List (Str × Int)) (os : List Op) : Prop where
  ne : ks ≠ []
  sub : (ks.map (·.1)).Sublist W8
  num : ∀ p ∈ ks, 1 ≤ p.2 ∧ p.2 ≤ 3
  osub : (os.map (·.w)).Sublist W6
  ops : ∀ o ∈ os, OpOk ks o
def spKit : Sp := fun vs H Q _ => ∃ (dk dl : Addr) (t : Int), vs = [.ref dk] ∧ DeckAt H dk dl t ∧ 0 ≤ t ∧ t ≤ 50000 ∧
  ∀ (r p1 p2 : Addr) (vs ws : List V) (ks : List (Str × Int)) (os : List Op) (t' : Int) (H' : Hp), DeckAt H' dk dl t' → t ≤ t' → t' ≤ t + 100 → Keep dk dl H H' → H r = none → H p1 = none → H p2 = none →
    H' r = some (.tup [.ref p1, .ref p2]) → Fz H' p1 vs → H' p2 = some (.tup ws) → DKs (Nw H H') vs (ks.map kD) → DKs (Nw H H') ws (os.map oD) → KitOk ks os → Q (.ref r) H'
structure TxtK (K : PySem.W.Frag) (mg : Str → Option Value) (fD fP fN : Addr) : Prop extends TxtP K mg fD fP where
  range : mg "range" = none
  tuple : mg "tuple" = none
  gN : mg "_law_need" = some (.ref fN)
  kN : PySem.W.keepIn K (.ref fN) = true
theorem w8_ok : ∀ x ∈ W8, PyData.strOk x = true := by decide +kernel
theorem sub_w8 {ks : List (Str × Int)} (h : (ks.map (·.1)).Sublist W8) : ∀ p ∈ ks, PyData.strOk p.1 = true := fun p hp => w8_ok _ (h.subset (List.mem_map_of_mem hp))

theorem DeckAt.set {dk dl p : Addr} {H : Hp} {t : Int} {o : HO} (h : DeckAt H dk dl t) (h1 : p ≠ dk) (h2 : p ≠ dl) : DeckAt (upd H p o) dk dl t := by
  obtain ⟨⟨m, x1, m0, m1⟩, ⟨cs, x2, l⟩⟩ := h
  exact ⟨⟨m, (upd_ne h1.symm).trans x1, m0, m1⟩, ⟨cs, (upd_ne h2.symm).trans x2, l⟩⟩
theorem LI.keepOf {dk dl p : Addr} {H H0 H' : Hp} {vs : List V} {ds : List PyData} (I : LI dk dl p H0 H' vs ds) (k : Keep dk dl H H0) (hp : H p = none) : Keep dk dl H H' := fun b o h1 h2 e =>
  I.keep b o h1 h2 (fun z => by rw [z, hp] at e; cases e) (k b o h1 h2 e)
theorem dks_at {H : Hp} : ∀ {vs : List V} {ds : List PyData} {i : Nat} {v : V}, DKs H vs ds → vs[i]? = some v → ∃ d, ds[i]? = some d ∧ DK H v d
  | _, _, 0, v, .cons h _, e => ⟨_, rfl, by cases e; exact h⟩
  | _, _, i + 1, v, .cons _ r, e => by
    obtain ⟨d, e1, h1⟩ := dks_at r (i := i) e
    exact ⟨d, e1, h1⟩
theorem dks_mem {H : Hp} {vs : List V} {ds : List PyData} {v : V} (r : DKs H vs ds) (h : v ∈ vs) : ∃ d, d ∈ ds ∧ DK H v d := by
  obtain ⟨i, e⟩ := List.getElem?_of_mem h
  obtain ⟨d, e1, h1⟩ := dks_at r e
  exact ⟨d, List.mem_of_getElem? e1, h1⟩
theorem nw_some {H H' : Hp} : ∀ b o, Nw H H' b = some o → H' b = some o := fun _ _ e => (Nw.of e).2
theorem kd_of {H : Hp} {v : V} {p : Str × Int} (h : DK H v (kD p)) : ∃ a, v = .ref a ∧ H a = some (.tup [.str p.1, .int p.2]) := by
  cases h with
  | tup e r =>
    cases r with
    | cons h1 r =>
      cases r with
      | cons h2 r =>
        cases r
        cases h1
        cases h2
        exact ⟨_, rfl, e⟩
theorem kds_keeps {H H' : Hp} (k : ∀ a x, H a = some (.tup x) → H' a = some (.tup x)) : ∀ (ks : List (Str × Int)) (vs : List V), DKs H vs (ks.map kD) → DKs H' vs (ks.map kD)
  | [], _, h => by cases h; exact .nil
  | c :: cs, _, h => by
    cases h with
    | cons h1 h2 =>
      obtain ⟨a, rfl, e⟩ := kd_of h1
      exact .cons (.tup (k _ _ e) (.cons (.str _) (.cons (.int _) .nil))) (kds_keeps k cs _ h2)
theorem singles_yes {ks : List (Str × Int)} {i : Nat} {p : Str × Int} (h : ks[i]? = some p) (e : p.2 = 1) : singles (ks.take (i + 1)) = singles (ks.take i) ++ [p.1] := by
  unfold singles
  rw [List.take_add_one, h, List.filter_append, List.map_append]
  simp [e]
theorem singles_no {ks : List (Str × Int)} {i : Nat} {p : Str × Int} (h : ks[i]? = some p) (e : p.2 ≠ 1) : singles (ks.take (i + 1)) = singles (ks.take i) := by
  unfold singles
  rw [List.take_add_one, h, List.filter_append, List.map_append]
  simp [e]
theorem singles_len (ks : List (Str × Int)) : (singles ks).length ≤ ks.length := by
  unfold singles
  rw [List.length_map]
  exact List.length_filter_le _ _
theorem singles_mem {ks : List (Str × Int)} {c : Str} (h : c ∈ singles ks) : (c, (1 : Int)) ∈ ks := by
  unfold singles at h
  obtain ⟨p, hp, rfl⟩ := List.mem_map.mp h
  obtain ⟨h1, h2⟩ := List.mem_filter.mp hp
  have := of_decide_eq_true h2
  rw [← this]
  exact h1
theorem kds_lay : ∀ ks : List (Str × Int), (∀ p ∈ ks, PyData.strOk p.1 = true) → PyData.canLayAll0 (ks.map kD) = true
  | [], _ => by simp [PyData.canLayAll0]
  | c :: cs, h => by
    simp only [List.map_cons, PyData.canLayAll0, PyData.canLay0, Bool.and_eq_true, kD]
    exact ⟨⟨h c (List.mem_cons_self ..), trivial, trivial⟩, kds_lay cs fun x hx => h x (List.mem_cons_of_mem _ hx)⟩
theorem kds_dep : ∀ ks : List (Str × Int), PyData.depthAll (ks.map kD) ≤ 1
  | [] => by simp [PyData.depthAll]
  | c :: cs => by
    have := kds_dep cs
    simp only [List.map_cons, PyData.depthAll, PyData.depth, kD]
    omega
theorem kds_shaped {ks : List (Str × Int)} (h : ∀ p ∈ ks, PyData.strOk p.1 = true) : SeqAt.shaped (.list (ks.map kD)) = true := by
  show (PyData.canLay0 (.list (ks.map kD)) && decide (PyData.depth (.list (ks.map kD)) ≤ 64)) = true
  rw [Bool.and_eq_true]
  refine ⟨by simp only [PyData.canLay0]; exact kds_lay ks h, decide_eq_true ?_⟩
  have := kds_dep ks
  simp only [PyData.depth]
  omega
/-- the kinds of the book as they stand once drawn -/
structure Kinds (dk dl : Addr) (H H2 : Hp) (pk : Addr) (vs : List V) (ks : List (Str × Int)) : Prop where
  at_ : H2 pk = some (.lst vs)
  off : H pk = none
  ok : DKs (Nw H H2) vs (ks.map kD)
  ne : ks ≠ []
  sub : (ks.map (·.1)).Sublist W8
  num : ∀ p ∈ ks, 1 ≤ p.2 ∧ p.2 ≤ 3
theorem half_sub : ([((PySem.Str.ofString "half" : Str), (1 : Int))].map (·.1)).Sublist W8 := by
  unfold W8
  exact .cons _ (.cons₂ _ (.cons _ (.cons _ (.cons _ (.cons _ (.cons _ (.cons _ .slnil)))))))
theorem fallback {K : PySem.W.Frag} {dk dl p : Addr} {H H' : Hp} {t tz : Int} {vs : List V} {ks : List (Str × Int)} {σ : L2.St} {G : V → Hp → Prop} (hD : DeckAt H dk dl tz) (hp : H p = none) (e : H' p = some (.lst vs)) (ok : DKs (Nw H H') vs (ks.map kD)) (D' : DeckAt H' dk dl t) (k' : Keep dk dl H H')
    (sub : (ks.map (·.1)).Sublist W8) (num : ∀ p ∈ ks, 1 ≤ p.2 ∧ p.2 ≤ 3) (hσ : σ[1]? = some (some (V.ref p)))
    (h : ∀ pk vs ks H2, Kinds dk dl H H2 pk vs ks → DeckAt H2 dk dl t → Keep dk dl H' H2 → G (.ref pk) H2) :
    tIf (tTest (tOp (rNeD K) (tVar 1) (tLst tNil))) (tVar 1) (tLst (tCons (tTup (tCons (tC (.str (PySem.Str.ofString "half"))) (tCons (tC (.int 1)) tNil))) tNil)) σ H' G := by
  refine ⟨_, hσ, (by show 0 ≤ sizeLine; exact Nat.zero_le _), fun q hq => ?_⟩
  have e1 : upd H' q (.lst []) p = some (.lst vs) := (upd_ne (ne_of_none e hq)).trans e
  have kq : Keep dk dl H' (upd H' q (.lst [])) := Keep.refl.new hq
  have ok1 : DKs (Nw H (upd H' q (.lst []))) vs (ks.map kD) := DKs.keeps (Nw.mono (fun _ z => z) (kq.news hD)) _ _ ok
  refine ⟨_, _, .lst (SqL.of e1) (dks_dp K _ _ (DKs.keeps nw_some _ _ ok1) (kds_lay ks (sub_w8 sub))), .lst (SqL.of upd_same) .nil, kds_shaped (sub_w8 sub), rfl, _, rfl, ?_⟩
  cases ks with
  | nil =>
    refine ite2 (fun z => absurd z (by simp [PyData.eqv, PyData.eqvAll])) (fun _ => ?_)
    refine ⟨(by show 2 ≤ sizeLine; rw [sizeLine_eq]; decide), fun a ha => ⟨(by show 1 ≤ sizeLine; rw [sizeLine_eq]; decide), fun b hb => ?_⟩⟩
    have Da : DeckAt (upd (upd H' q (.lst [])) a (.tup [.str (PySem.Str.ofString "half"), .int 1])) dk dl t := (D'.new hq).new ha
    have Ka := (kq.new ha : Keep dk dl H' (upd (upd H' q (.lst [])) a (.tup [.str (PySem.Str.ofString "half"), .int 1])))
    have na : H a = none := hD.dom (D'.new hq) (k'.trans kq) a ha
    have nb : H b = none := hD.dom Da (k'.trans Ka) b hb
    refine h b [.ref a] [((PySem.Str.ofString "half" : Str), (1 : Int))] _ ⟨upd_same, nb, ?_, List.cons_ne_nil _ _, half_sub, fun p hp => by simp only [List.mem_cons, List.not_mem_nil, or_false] at hp; subst hp; decide⟩ (Da.new hb) (Ka.new hb)
    exact .cons (.tup (Nw.at na ((upd_ne (ne_of_none upd_same hb)).trans upd_same)) (.cons (.str _) (.cons (.int _) .nil))) .nil
  | cons c0 cr =>
    refine ite2 (fun _ => ?_) (fun z => absurd rfl z)
    exact ⟨_, hσ, h p vs (c0 :: cr) _ ⟨e1, hp, ok1, List.cons_ne_nil _ _, sub, num⟩ (D'.new hq) kq⟩
end K12

set_option Elab.async false
set_option linter.all false
set_option maxRecDepth 100000
set_option maxHeartbeats 4000000
/-! Words, integers, ascending words. -/
namespace K12
open PySem PySem.Spec PyProof.Rows L2 Mine
abbrev sWord : Stmt := top 13
abbrev sInt : Stmt := top 35
abbrev sAsc : Stmt := top 18
def WW : List Str := W8 ++ W6 ++ [PySem.Str.ofString "sign", PySem.Str.ofString "shown", PySem.Str.ofString "signed", PySem.Str.ofString "unseal"]
def ABC : Str := PySem.Str.ofString "abcdefghijklmnopqrstuvwxyz"
theorem ww_len : ∀ x ∈ WW, 1 ≤ x.length ∧ x.length ≤ 8 := by decide +kernel
theorem ww_abc : ∀ x ∈ WW, ∀ c ∈ x.cps.toList, c ∈ ABC.cps.toList := by decide +kernel
def spWord : Sp := fun vs H Q _ => ∃ x, x ∈ WW ∧ vs = [.str x] ∧ ∀ H', Same H H' → Q (.bl true) H'
structure TxtW (mg : Str → Option Value) : Prop where
  isi : mg "isinstance" = none
  str : mg "str" = none
  int : mg "int" = none
  bool : mg "bool" = none
  tuple : mg "tuple" = none
  len : mg "len" = none
  all : mg "all" = none
  zip : mg "zip" = none
  dict : mg "dict" = none
  longest : ∃ u, mg "LONGEST" = some u ∧ RelV (.int 8) u
  letters : ∃ u, mg "LETTERS" = some u ∧ RelV (.str ABC) u
theorem rep_all (n : Nat) : (List.replicate n true).all id = true := by
  induction n with
  | zero => rfl
  | succ n ih => rw [List.replicate_succ, List.all_cons, ih]; rfl
theorem rep_snoc (n : Nat) : (List.replicate (n + 1) true).map V.bl = (List.replicate n true).map V.bl ++ [V.bl true] := by
  rw [List.replicate_succ', List.map_append]
  rfl
section
variable {P : Program} {w : World} {K : PySem.W.Frag} {mg : Str → Option Value} {base : Heap}
theorem scWord : FnScope ["thing", "sign"] ["thing"] (defScope sWord) := ⟨rfl, rfl, rfl, by decide +kernel, rfl, by decide +kernel, by decide +kernel⟩
theorem ok_word {f : Addr} {fd : FuncData} (F : Fun K "is_word" "is_word" sWord f fd) (T : TxtW mg) : FnOk P w K mg base CX0 1 f fd ["thing"] spWord := by
  refine F.ok scWord (fun vs H Q E h => ?_) (fun cdv A outer s H vs Q E hr h => ?_)
  · obtain ⟨x, _, rfl, _⟩ := h
    rfl
  · obtain ⟨x, hx, rfl, k⟩ := h
    refine ⟨_, pss_cons (ps_if (PW.pt (pw_or (pt_not (pt_val (pe_callB call_isi (by rfl) T.isi (by decide +kernel) (pa_cons (pv 0) (pa_cons (pe_bltn (v := .ty "str") rfl T.str (by decide +kernel) rfl) pa_nil)))))
        (pw_or1 (pt_not (pt_chain op_le op_le pe_int (pe_callB call_len_str (by rfl) T.len PySem.boot_len (pa_cons (pv 0) pa_nil)) (C8.pe_gc (v := .int 8) rfl T.longest)))))) (pss_one (ps_ret pe_bl)) pss_nil)
      (pss_one (ps_ret (pe_callB (cr_all rfl) (by rfl) T.all (by decide +kernel) (pa_cons (pe_lc (own := [("sign", 1)]) (g := gName 1) (tt := tYes) rfl scWord.nd (pi_str (pv 0))
        (blkOk_by (own := [("sign", 1)]) (N := ["thing", "sign"]) (sc := defScope sWord) (by decide +kernel))
        (fun _ _ _ _ _ => pg_name (i := 1) scWord.nd rfl (Or.inl rfl)) (fun _ _ _ _ _ => pts_nil) (fun _ _ _ _ _ => pe_cmpR op_in_sign (pv 1) (C8.pe_gc (v := .str ABC) (by rfl) T.letters) (by with_unfolding_all rfl))) pa_nil)))), ?_⟩
    have hl := ww_len x hx
    refine ⟨_, rfl, _, _, _, _, true, rfl, .ty "str", .base (.str x), kit_ty rfl, _, rfl, ite2 (fun z => absurd z (by decide)) (fun _ => ?_)⟩
    refine ⟨_, rfl, x, rfl, (by rw [sizeLine_eq]; omega), _, _, rfl, rfl, _, rfl, ite2 (fun _ => ?_) (fun z => absurd (decide_eq_true (by omega)) z)⟩
    refine ⟨_, _, rfl, rfl, _, rfl, ite2 (fun z => ?_) (fun _ => ?_)⟩
    · have : decide ((x.length : Int) ≤ 8) = true := decide_eq_true (by omega)
      rw [this] at z
      cases z
    · refine ⟨_, rfl, x, rfl, fun D hD => ?_⟩
      refine lc_it walk_str (fun i H' => H' = upd H D (.lst ((List.replicate i true).map V.bl))) rfl (fun _ _ _ _ => trivial) ?_ ?_
      · rintro i y H1 H2 hi rfl ⟨rfl, c, hc, rfl⟩
        refine ⟨rfl, ?_⟩
        unfold tYes
        dsimp only
        rw [if_pos rfl]
        have hm : c ∈ ABC.cps.toList := ww_abc x hx c (List.mem_of_getElem? (by rw [Array.getElem?_toList]; exact hc))
        refine ⟨_, rfl, c, _, rfl, rfl, _, upd_same, ?_, ?_⟩
        · have hs : x.cps.size = x.length := rfl
          rw [List.length_map, List.length_replicate, sizeLine_eq]
          omega
        · rw [upd_upd, decide_eq_true hm, rep_snoc]
      · rintro H1 rfl
        refine ⟨D, _, rfl, SqL.of upd_same, ?_⟩
        rw [rep_all]
        exact k _ (same_new same_rfl hD)
theorem scInt : FnScope ["value", "low", "high"] ["value", "low", "high"] (defScope sInt) := ⟨rfl, rfl, rfl, by decide +kernel, rfl, by decide +kernel, by decide +kernel⟩
def spInt : Sp := fun vs H Q _ => ∃ v lo hi : Int, vs = [.int v, .int lo, .int hi] ∧ lo ≤ v ∧ v ≤ hi ∧ Q (.bl true) H
theorem ok_int {f : Addr} {fd : FuncData} (F : Fun K "_is_integer" "_is_integer" sInt f fd) (T : TxtW mg) : FnOk P w K mg base CX0 1 f fd ["value", "low", "high"] spInt := by
  refine F.ok scInt (fun vs H Q E h => ?_) (fun cdv A outer s H vs Q E hr h => ?_)
  · obtain ⟨_, _, _, rfl, _⟩ := h
    rfl
  · obtain ⟨v, lo, hi, rfl, h1, h2, k⟩ := h
    refine ⟨_, pss_one (ps_ret (pe_and (pe_callB call_isi (by rfl) T.isi (by decide +kernel) (pa_cons (pv 0) (pa_cons (pe_bltn (v := .ty "int") rfl T.int (by decide +kernel) rfl) pa_nil)))
      (pe_and (pe_not (pe_callB call_isi (by rfl) T.isi (by decide +kernel) (pa_cons (pv 0) (pa_cons (pe_bltn (v := .ty "bool") rfl T.bool (by decide +kernel) rfl) pa_nil))))
      (pe_one (pe_chain op_le op_le (pv 1) (pv 0) (pv 2)))))), ?_⟩
    refine ⟨_, rfl, _, _, _, _, true, rfl, .ty "int", .base (.int v), kit_ty rfl, _, rfl, ite2 (fun _ => ?_) (fun z => absurd rfl z)⟩
    refine ⟨_, rfl, _, _, _, _, false, rfl, .ty "bool", .base (.int v), kit_ty (by decide +kernel), _, rfl, _, rfl, ite2 (fun _ => ?_) (fun z => absurd rfl z)⟩
    refine ⟨_, rfl, _, rfl, _, _, rfl, rfl, _, rfl, ite2 (fun _ => ?_) (fun z => absurd (decide_eq_true h1) z)⟩
    refine ⟨_, rfl, _, _, rfl, rfl, ?_⟩
    dsimp only
    rw [decide_eq_true h2]
    exact k
theorem cut1 (xs : List V) : cutV xs (some 1) none = xs.drop 1 := by
  unfold cutV HT.sIx
  cases xs with
  | nil => rfl
  | cons x r => simp
theorem scAsc : FnScope ["texts", "left", "right"] ["texts"] (defScope sAsc) := ⟨rfl, rfl, rfl, by decide +kernel, rfl, by decide +kernel, by decide +kernel⟩
def Asc (ws : List Str) : Prop := ∀ (i : Nat) (a b : Str), ws[i]? = some a → ws[i + 1]? = some b → a.cps.toList < b.cps.toList
def spAsc : Sp := fun vs H Q _ => ∃ (p : Addr) (ws : List Str), vs = [.ref p] ∧ H p = some (.lst (ws.map V.str)) ∧ ws.length ≤ 1000 ∧ Asc ws ∧ ∀ H', Same H H' → Q (.bl true) H'
theorem ok_asc {f : Addr} {fd : FuncData} (F : Fun K "ascends" "ascends" sAsc f fd) (T : TxtW mg) : FnOk P w K mg base CX0 1 f fd ["texts"] spAsc := by
  refine F.ok scAsc (fun vs H Q E h => ?_) (fun cdv A outer s H vs Q E hr h => ?_)
  · obtain ⟨_, _, rfl, _⟩ := h
    rfl
  · obtain ⟨p, ws, rfl, hp, hl, ha, k⟩ := h
    refine ⟨_, pss_one (ps_ret (pe_callB (cr_all rfl) (by rfl) T.all (by decide +kernel) (pa_cons (pe_lc (own := [("left", 1), ("right", 2)]) (g := gTup K 2 (gCons (gName 1) (gCons (gName 2) gNil))) (tt := tYes) rfl scAsc.nd
        (pi_zip (by rfl) T.zip (pa_cons (pv 0) (pa_cons (pe_slice sl_list (pv 0) (po_some pe_int) po_none) pa_nil)))
        (blkOk_by (own := [("left", 1), ("right", 2)]) (N := ["texts", "left", "right"]) (sc := defScope sAsc) (by decide +kernel))
        (fun _ _ _ _ _ => pg_tup rfl (pgs_cons (pg_name (i := 1) scAsc.nd rfl (Or.inl rfl)) (pgs_cons (pg_name (i := 2) scAsc.nd rfl (Or.inl rfl)) pgs_nil))) (fun _ _ _ _ _ => pts_nil) (fun _ _ _ _ _ => pe_cmpR op_lt_str (pv 1) (pv 2) (nomark _))) pa_nil))), ?_⟩
    refine ⟨_, rfl, _, rfl, _, rfl, p, _, rfl, SqL.of hp, fun q hq => ?_⟩
    rw [cut1]
    have s1 : Same H (upd H q (.lst ((ws.map V.str).drop 1))) := same_new same_rfl hq
    refine ⟨p, q, _, _, rfl, SqL.of (s1 _ _ hp), SqL.of upd_same, fun D hD => ?_⟩
    have s2 := same_new (o := .lst []) s1 hD
    have eq0 : upd H q (.lst ((ws.map V.str).drop 1)) q = some (.lst ((ws.map V.str).drop 1)) := upd_same
    have nqD : q ≠ D := ne_of_none eq0 hD
    have npD : p ≠ D := ne_of_none (s1 _ _ hp) hD
    refine lc_it (walk_zip rfl) (fun i H' => H' D = some (.lst ((List.replicate i true).map V.bl)) ∧ H' p = some (.lst (ws.map V.str)) ∧ H' q = some (.lst ((ws.map V.str).drop 1)) ∧ Same H H') ⟨upd_same, s2 _ _ hp, (upd_ne nqD).trans eq0, s2⟩ (fun _ _ _ h => ⟨SqL.of h.2.1, SqL.of h.2.2.1⟩) ?_ ?_
    · rintro i y H1 H2 hi ⟨e1, e2, e3, e4⟩ ⟨t, x, z, rfl, ht, rfl, hx, hz⟩
      have hx : (ws.map V.str)[i]? = some x := hx
      have hz : ((ws.map V.str).drop 1)[i]? = some z := hz
      rw [List.getElem?_map] at hx
      rw [List.getElem?_drop, List.getElem?_map] at hz
      obtain ⟨a, ha1, rfl⟩ := Option.map_eq_some_iff.mp hx
      obtain ⟨b, hb1, rfl⟩ := Option.map_eq_some_iff.mp hz
      refine ⟨t, _, rfl, SqT.of upd_same, rfl, _, _, rfl, _, _, rfl, rfl, rfl, ?_⟩
      unfold tYes
      dsimp only
      rw [if_pos rfl]
      have lt := ha i a b ha1 (by rw [Nat.add_comm]; exact hb1)
      have u1 := (upd_ne (o := .tup [.str a, .str b]) (ne_of_none e1 ht)).trans e1
      have u2 := (upd_ne (o := .tup [.str a, .str b]) (ne_of_none e2 ht)).trans e2
      have u3 := (upd_ne (o := .tup [.str a, .str b]) (ne_of_none e3 ht)).trans e3
      have u4 := same_new (o := .tup [.str a, .str b]) e4 ht
      refine ⟨_, rfl, _, rfl, a, b, rfl, rfl, _, u1, ?_, ?_, (upd_ne npD).trans u2, (upd_ne nqD).trans u3, ?_⟩
      · rw [List.length_map, List.length_replicate, sizeLine_eq]
        have := (List.getElem?_eq_some_iff.mp ha1).1
        omega
      · rw [upd_same, decide_eq_true lt, rep_snoc]
      · intro c o e
        have hDn : H D = none := by
          cases zz : H D with
          | none => rfl
          | some o => rw [s1 _ _ zz] at hD; cases hD
        exact (upd_ne (ne_of_none e hDn)).trans (u4 c o e)
    · rintro H1 ⟨e1, e2, e3, e4⟩
      refine ⟨D, _, rfl, SqL.of e1, ?_⟩
      rw [rep_all]
      exact k _ e4
end
end K12

set_option Elab.async false
set_option linter.all false
set_option maxRecDepth 100000
set_option maxHeartbeats 4000000
/-! The parts of a book are looked at: kinds. -/
namespace K12
open PySem PySem.Spec PyProof.Rows L2 Mine
abbrev sKinds : Stmt := top 36
abbrev sKindQ : Stmt := top 37
theorem sqT_same {K : PySem.W.Frag} {H H' : Hp} {a : Addr} {xs : List V} (k : Same H H') (h : SqT K H a xs) : SqT K H' a xs := by
  rcases h with (h | ⟨o, h⟩) | h
  · exact .inl (.inl (k _ _ h))
  · exact .inl (.inr ⟨o, k _ _ h⟩)
  · exact .inr h
theorem tupN_same {K : PySem.W.Frag} {H H' : Hp} {a : Addr} {xs : List V} (k : Same H H') (h : TupN K H a xs) : TupN K H' a xs := by
  rcases h with ⟨o, e, d⟩ | ⟨h, r⟩
  · exact .inl ⟨o, k _ _ e, d⟩
  · exact .inr ⟨sqT_same k h, r⟩
theorem sqT_ty {K : PySem.W.Frag} {H : Hp} {a : Addr} {xs : List V} (h : SqT K H a xs) : TyX K H (.ref a) (.type "tuple") := by
  rcases h with (h | ⟨o, h⟩) | ⟨o, its, n, e, c, _⟩
  · exact .base (.tup h)
  · exact .fTuple h
  · exact .kTuple e c
/-- kinds with their numbers, wherever they stand -/
structure KindsAt (K : PySem.W.Frag) (H : Hp) (kk : Addr) (ps : List Addr) (ks : List (Str × Int)) : Prop where
  at_ : TupN K H kk (ps.map V.ref)
  each : Paired (fun a p => SqT K H a [.str p.1, .int p.2]) ps ks
theorem paired_at {α β : Type} {R : α → β → Prop} : ∀ {as : List α} {bs : List β} {i : Nat} {a : α}, Paired R as bs → as[i]? = some a → ∃ b, bs[i]? = some b ∧ R a b
  | _, _, 0, a, .cons h _, e => ⟨_, rfl, by cases e; exact h⟩
  | _, _, i + 1, a, .cons _ r, e => by
    obtain ⟨b, e1, h1⟩ := paired_at r (i := i) e
    exact ⟨b, e1, h1⟩
theorem paired_mono {α β : Type} {R S : α → β → Prop} (f : ∀ a b, R a b → S a b) : ∀ {as : List α} {bs : List β}, Paired R as bs → Paired S as bs
  | _, _, .nil => .nil
  | _, _, .cons h r => .cons (f _ _ h) (paired_mono f r)
theorem KindsAt.same {K : PySem.W.Frag} {H H' : Hp} {kk : Addr} {ps : List Addr} {ks : List (Str × Int)} (h : KindsAt K H kk ps ks) (k : Same H H') : KindsAt K H' kk ps ks :=
  ⟨tupN_same k h.at_, paired_mono (fun _ _ => sqT_same k) h.each⟩
theorem KindsAt.len {K : PySem.W.Frag} {H : Hp} {kk : Addr} {ps : List Addr} {ks : List (Str × Int)} (h : KindsAt K H kk ps ks) : ps.length = ks.length := h.each.length
/-- what is asked of kinds -/
structure KsOk (ks : List (Str × Int)) : Prop where
  ne : ks ≠ []
  ww : ∀ p ∈ ks, p.1 ∈ WW
  num : ∀ p ∈ ks, 1 ≤ p.2 ∧ p.2 ≤ 3
  asc : Asc (ks.map (·.1))
  nd : (ks.map (·.1)).Nodup
  len : ks.length ≤ 20
/-- the numbers of parts as a dict tells them -/
def Cnt (H : Hp) (cd : Addr) (ks : List (Str × Int)) : Prop := ∃ kvs : List (Key × V), H cd = some (.dK kvs) ∧ (∀ p ∈ ks, valV kvs (.inr p.1) = some (.int p.2)) ∧ ∀ c, c ∉ ks.map (·.1) → valV kvs (.inr c) = none
theorem Cnt.same {H H' : Hp} {cd : Addr} {ks : List (Str × Int)} (h : Cnt H cd ks) (k : Same H H') : Cnt H' cd ks := let ⟨kvs, e, r⟩ := h; ⟨kvs, k _ _ e, r⟩
abbrev kvOf (p : Str × Int) : Key × V := (.inr p.1, .int p.2)
theorem merge_no {c : Str} : ∀ (ks : List (Str × Int)) (acc : List (Key × V)), c ∉ ks.map (·.1) → valV (mergeK acc (ks.map kvOf)) (.inr c) = valV acc (.inr c)
  | [], _, _ => rfl
  | p :: r, acc, h => by
    rw [List.map_cons, List.mem_cons, not_or] at h
    show valV (mergeK (putK acc (Sum.inr p.1) (.int p.2)) (r.map kvOf)) (.inr c) = _
    rw [merge_no r _ h.2, valV_put, if_neg]
    intro z
    injection z with z
    exact h.1 z
theorem merge_yes {p : Str × Int} : ∀ (ks : List (Str × Int)) (acc : List (Key × V)), (ks.map (·.1)).Nodup → p ∈ ks → valV (mergeK acc (ks.map kvOf)) (.inr p.1) = some (.int p.2)
  | [], _, _, h => (List.not_mem_nil h).elim
  | q :: r, acc, nd, h => by
    rw [List.map_cons, List.nodup_cons] at nd
    show valV (mergeK (putK acc (Sum.inr q.1) (.int q.2)) (r.map kvOf)) (.inr p.1) = _
    rcases List.mem_cons.mp h with rfl | h
    · rw [merge_no r _ nd.1, valV_put, if_pos rfl]
    · exact merge_yes r _ nd.2 h
theorem cnt_new {H : Hp} {cd : Addr} {ks : List (Str × Int)} (nd : (ks.map (·.1)).Nodup) : Cnt (upd H cd (.dK (mergeK [] (ks.map kvOf)))) cd ks :=
  ⟨_, upd_same, fun _ hp => merge_yes ks [] nd hp, fun _ hc => by rw [merge_no ks [] hc]; rfl⟩
theorem paired_kv {K : PySem.W.Frag} {H : Hp} : ∀ {ps : List Addr} {ks : List (Str × Int)}, Paired (fun a p => SqT K H a [.str p.1, .int p.2]) ps ks → Paired (fun p kv => SqT K H p [kV kv.1, kv.2]) ps (ks.map kvOf)
  | _, _, .nil => .nil
  | _, _, .cons h r => .cons h (paired_kv r)
/-- what the defs of the book need of the text -/
structure TxtB (K : PySem.W.Frag) (mg : Str → Option Value) (fW fI fA : Addr) : Prop extends TxtW mg where
  gW : mg "is_word" = some (.ref fW)
  kW : PySem.W.keepIn K (.ref fW) = true
  gI : mg "_is_integer" = some (.ref fI)
  kI : PySem.W.keepIn K (.ref fI) = true
  gA : mg "ascends" = some (.ref fA)
  kA : PySem.W.keepIn K (.ref fA) = true
  mostP : ∃ u, mg "MOST_PARTS" = some u ∧ RelV (.int 3) u
  mostN : ∃ u, mg "MOST_NEEDS" = some u ∧ RelV (.int 2) u
section
variable {P : Program} {w : World} {K : PySem.W.Frag} {mg : Str → Option Value} {base : Heap}
/-- the three defs below -/
structure Lows (P : Program) (w : World) (K : PySem.W.Frag) (mg : Str → Option Value) (base : Heap) (fW fI fA : Addr) (dW dI dA : FuncData) : Prop where
  W : FnOk P w K mg base CX0 1 fW dW ["thing"] spWord
  bW : Binds K dW ["thing"] []
  I : FnOk P w K mg base CX0 1 fI dI ["value", "low", "high"] spInt
  bI : Binds K dI ["value", "low", "high"] []
  A : FnOk P w K mg base CX0 1 fA dA ["texts"] spAsc
  bA : Binds K dA ["texts"] []
theorem scKindQ : FnScope ["kind"] ["kind"] (defScope sKindQ) := ⟨rfl, rfl, rfl, by decide +kernel, rfl, by decide +kernel, by decide +kernel⟩
def spKindQ (K : PySem.W.Frag) : Sp := fun vs H Q _ => ∃ (a : Addr) (c : Str) (m : Int), vs = [.ref a] ∧ SqT K H a [.str c, .int m] ∧ c ∈ WW ∧ 1 ≤ m ∧ m ≤ 3 ∧ ∀ H', Same H H' → Q (.bl true) H'
theorem ok_kindQ {f fW fI fA : Addr} {fd dW dI dA : FuncData} (F : Fun K "_is_kind" "_is_kind" sKindQ f fd) (T : TxtB K mg fW fI fA) (L : Lows P w K mg base fW fI fA dW dI dA) : FnOk P w K mg base CX0 2 f fd ["kind"] (spKindQ K) := by
  refine F.ok scKindQ (fun vs H Q E h => ?_) (fun cdv A outer s H vs Q E hr h => ?_)
  · obtain ⟨_, _, _, rfl, _⟩ := h
    rfl
  · obtain ⟨a, c, m, rfl, ha, hc, m1, m3, k⟩ := h
    refine ⟨_, pss_cons (ps_if (PW.pt (pw_or (pt_not (pt_val (pe_callB call_isi (by rfl) T.isi (by decide +kernel) (pa_cons (pv 0) (pa_cons (pe_bltn (v := .ty "tuple") rfl T.tuple (by decide +kernel) rfl) pa_nil)))))
        (pw_or1 (pt_cmpR op_ne (pe_callB call_len_seq (by rfl) T.len PySem.boot_len (pa_cons (pv 0) pa_nil)) pe_int (nomark _))))) (pss_one (ps_ret pe_bl)) pss_nil)
      (pss_one (ps_ret (pe_and (pe_call L.W hr rfl T.gW T.kW L.bW .nil pass0 (pa_cons (pe_ix ix_tup (pv 0) pe_int (fun _ _ => rfl)) pa_nil))
        (pe_one (pe_call L.I hr rfl T.gI T.kI L.bI .nil pass0 (pa_cons (pe_ix ix_tup (pv 0) pe_int (fun _ _ => rfl)) (pa_cons pe_int (pa_cons (C8.pe_gc (v := .int 3) rfl T.mostP) pa_nil)))))))), ?_⟩
    refine ⟨_, rfl, _, _, _, _, true, rfl, .ty "tuple", sqT_ty ha, kit_ty rfl, _, rfl, ite2 (fun z => absurd z (by decide)) (fun _ => ?_)⟩
    refine ⟨_, rfl, a, _, rfl, .inr ha, rfl, _, rfl, ite2 (fun z => absurd z (by show ¬ (!decide (V.int ((2 : Nat) : Int) = V.int 2)) = true; decide)) (fun _ => ?_)⟩
    refine ⟨_, rfl, a, _, _, _, rfl, rfl, ha, rfl, c, hc, rfl, fun H1 k1 => ⟨_, rfl, ite2 (fun _ => ?_) (fun z => absurd rfl z)⟩⟩
    exact ⟨_, rfl, a, _, _, _, rfl, rfl, sqT_same k1 ha, rfl, m, 1, 3, rfl, m1, m3, k _ k1⟩
theorem scKinds : FnScope ["kinds", "kind"] ["kinds"] (defScope sKinds) := ⟨rfl, rfl, rfl, by decide +kernel, rfl, by decide +kernel, by decide +kernel⟩
def spKinds (K : PySem.W.Frag) : Sp := fun vs H Q _ => ∃ (kk : Addr) (ps : List Addr) (ks : List (Str × Int)), vs = [.ref kk] ∧ KindsAt K H kk ps ks ∧ KsOk ks ∧ ∀ H', Same H H' → Q (.bl true) H'
theorem ok_kinds {f fQ fW fI fA : Addr} {fd dQ dW dI dA : FuncData} (F : Fun K "_are_kinds" "_are_kinds" sKinds f fd) (T : TxtB K mg fW fI fA) (L : Lows P w K mg base fW fI fA dW dI dA)
    (G : FnOk P w K mg base CX0 2 fQ dQ ["kind"] (spKindQ K)) (bG : Binds K dQ ["kind"] []) (gQ : mg "_is_kind" = some (.ref fQ)) (kQ : PySem.W.keepIn K (.ref fQ) = true) : FnOk P w K mg base CX0 3 f fd ["kinds"] (spKinds K) := by
  refine F.ok scKinds (fun vs H Q E h => ?_) (fun cdv A outer s H vs Q E hr h => ?_)
  · obtain ⟨_, _, _, rfl, _⟩ := h
    rfl
  · obtain ⟨kk, ps, ks, rfl, hk, ok, k⟩ := h
    have hr1 : Room 1 _ := hr.mono (by decide)
    have hl := hk.len
    have hlen := ok.len
    refine ⟨_, pss_cons (ps_if (PW.pt (pw_or (pt_not (pt_val (pe_callB call_isi (by rfl) T.isi (by decide +kernel) (pa_cons (pv 0) (pa_cons (pe_bltn (v := .ty "tuple") rfl T.tuple (by decide +kernel) rfl) pa_nil)))))
        (pw_or1 (pt_cmpR op_eq (pe_callB call_len_seq (by rfl) T.len PySem.boot_len (pa_cons (pv 0) pa_nil)) pe_int (nomark _))))) (pss_one (ps_ret pe_bl)) pss_nil)
      (pss_one (ps_ret (pe_and (pe_callB (cr_all rfl) (by rfl) T.all (by decide +kernel) (pa_cons (pe_lc (own := [("kind", 1)]) (g := gName 1) (tt := tYes) rfl scKinds.nd (pi_tup (pv 0))
        (blkOk_by (own := [("kind", 1)]) (N := ["kinds", "kind"]) (sc := defScope sKinds) (by decide +kernel))
        (fun _ _ _ _ _ => pg_name (i := 1) scKinds.nd rfl (Or.inl rfl)) (fun _ _ _ _ _ => pts_nil) (fun _ _ _ _ _ => pe_call G hr rfl gQ kQ bG .nil pass0 (pa_cons (pv 1) pa_nil))) pa_nil))
        (pe_one (pe_call L.A hr1 rfl T.gA T.kA L.bA .nil pass0 (pa_cons (pe_lc (own := [("kind", 1)]) (g := gName 1) (tt := tYes) rfl scKinds.nd (pi_tup (pv 0))
        (blkOk_by (own := [("kind", 1)]) (N := ["kinds", "kind"]) (sc := defScope sKinds) (by decide +kernel))
        (fun _ _ _ _ _ => pg_name (i := 1) scKinds.nd rfl (Or.inl rfl)) (fun _ _ _ _ _ => pts_nil) (fun _ _ _ _ _ => pe_ix (show IxR _ (rIxT K) from ix_tup) (pv 1) pe_int (fun _ _ => rfl))) pa_nil)))))), ?_⟩
    refine ⟨_, rfl, _, _, _, _, true, rfl, .ty "tuple", sqT_ty hk.at_.sq, kit_ty rfl, _, rfl, ite2 (fun z => absurd z (by decide)) (fun _ => ?_)⟩
    refine ⟨_, rfl, kk, _, rfl, .inr hk.at_.sq, rfl, _, rfl, ite2 (fun z => ?_) (fun _ => ?_)⟩
    · have z := of_decide_eq_true z
      injection z with z
      rw [List.length_map, hl] at z
      exact absurd (List.length_eq_zero_iff.mp (by omega)) ok.ne
    refine ⟨_, rfl, kk, rfl, ⟨_, hk.at_.sq⟩, fun D hD => ?_⟩
    have nD : ∀ {H1 : Hp} {b : Addr} {o : HO}, H b = some o → b ≠ D := fun e => ne_of_none e hD
    refine lc_tup (K := K) (a := kk) (xs := ps.map V.ref) (fun i H' => H' D = some (.lst ((List.replicate i true).map V.bl)) ∧ Same H H') ⟨upd_same, same_new same_rfl hD⟩ (fun i H' _ h => sqT_same h.2 hk.at_.sq) ?_ ?_
    · rintro i y H1 hi ⟨e1, s1⟩
      rw [List.getElem?_map] at hi
      obtain ⟨a, ha, rfl⟩ := Option.map_eq_some_iff.mp hi
      obtain ⟨p, hp, hq⟩ := paired_at hk.each ha
      have hm := List.mem_of_getElem? hp
      have il : i < ps.length := (List.getElem?_eq_some_iff.mp ha).1
      refine ⟨rfl, ?_⟩
      unfold tYes
      dsimp only
      rw [if_pos rfl]
      refine ⟨_, rfl, a, p.1, p.2, rfl, sqT_same s1 hq, ok.ww p hm, (ok.num p hm).1, (ok.num p hm).2, fun H2 s2 => ⟨_, s2 _ _ e1, ?_, ?_, ?_⟩⟩
      · rw [List.length_map, List.length_replicate, sizeLine_eq]
        omega
      · rw [upd_same, rep_snoc]
      · exact fun b o e => (upd_ne (ne_of_none e hD)).trans (s2 _ _ (s1 _ _ e))
    · rintro H1 ⟨e1, s1⟩
      refine ⟨D, _, rfl, SqL.of e1, ?_⟩
      rw [rep_all]
      refine ⟨_, rfl, ite2 (fun _ => ?_) (fun z => absurd rfl z)⟩
      refine ⟨_, rfl, kk, rfl, ⟨_, sqT_same s1 hk.at_.sq⟩, fun E1 hE => ?_⟩
      refine lc_tup (K := K) (a := kk) (xs := ps.map V.ref) (fun i H' => H' = upd H1 E1 (.lst (((ks.take i).map (·.1)).map V.str))) rfl (fun i H' _ h => by rw [h]; exact sqT_same (same_new s1 hE) hk.at_.sq) ?_ ?_
      · rintro i y H2 hi rfl
        rw [List.getElem?_map] at hi
        obtain ⟨a, ha, rfl⟩ := Option.map_eq_some_iff.mp hi
        obtain ⟨p, hp, hq⟩ := paired_at hk.each ha
        have il : i < ks.length := (List.getElem?_eq_some_iff.mp hp).1
        refine ⟨rfl, ?_⟩
        unfold tYes
        dsimp only
        rw [if_pos rfl]
        refine ⟨_, rfl, a, _, _, _, rfl, rfl, sqT_same (same_new s1 hE) hq, rfl, _, upd_same, ?_, ?_⟩
        · rw [List.length_map, List.length_map, List.length_take, sizeLine_eq]
          omega
        · rw [upd_upd, List.take_add_one, hp, List.map_append, List.map_append]
          rfl
      · rintro H2 rfl
        rw [List.length_map, hl, List.take_of_length_le (Nat.le_refl _)]
        exact ⟨E1, ks.map (·.1), rfl, upd_same, by rw [List.length_map]; omega, ok.asc, fun H3 s3 => k H3 (same_tr (same_new s1 hE) s3)⟩
end
end K12

set_option Elab.async false
set_option linter.all false
set_option maxRecDepth 100000
set_option maxHeartbeats 4000000
/-! The parts of a book are looked at: needs and openings. -/
namespace K12
open PySem PySem.Spec PyProof.Rows L2 Mine
abbrev sOpens : Stmt := top 38
abbrev sOpenQ : Stmt := top 39
abbrev sNeedQ : Stmt := top 40
abbrev sOne : Stmt := top 41
inductive Nd where
  | part (j : Int)
  | around (c : Str) (j : Int)
  | inside (j : Int) (c : Str)
def ndV : Nd → List V
  | .part j => [.str (PySem.Str.ofString "part"), .int j]
  | .around c j => [.str (PySem.Str.ofString "around"), .str c, .int j]
  | .inside j c => [.str (PySem.Str.ofString "inside"), .int j, .str c]
def ndD : Nd → PyData
  | .part j => .tuple [.str (PySem.Str.ofString "part"), .int j]
  | .around c j => .tuple [.str (PySem.Str.ofString "around"), .str c, .int j]
  | .inside j c => .tuple [.str (PySem.Str.ofString "inside"), .int j, .str c]
def NdOk (m : Int) (ks : List (Str × Int)) : Nd → Prop
  | .part j => 0 ≤ j ∧ j < m
  | .around c j => (c, (1 : Int)) ∈ ks ∧ 0 ≤ j ∧ j < m
  | .inside j c => (c, (1 : Int)) ∈ ks ∧ 0 ≤ j ∧ j < m
structure Opn where
  w : Str
  k : Str
  g : Int
  nn : List Nd
def OpnAt (K : PySem.W.Frag) (H : Hp) (a : Addr) (o : Opn) : Prop := ∃ (b : Addr) (as : List Addr), SqT K H a [.str o.w, .str o.k, .int o.g, .ref b] ∧ SqT K H b (as.map V.ref) ∧ Paired (fun x n => SqT K H x (ndV n)) as o.nn
theorem OpnAt.same {K : PySem.W.Frag} {H H' : Hp} {a : Addr} {o : Opn} (k : Same H H') (h : OpnAt K H a o) : OpnAt K H' a o :=
  let ⟨b, as, h1, h2, h3⟩ := h
  ⟨b, as, sqT_same k h1, sqT_same k h2, paired_mono (fun _ _ => sqT_same k) h3⟩
structure OpnsAt (K : PySem.W.Frag) (H : Hp) (oo : Addr) (as : List Addr) (os : List Opn) : Prop where
  at_ : SqT K H oo (as.map V.ref)
  each : Paired (OpnAt K H) as os
theorem OpnsAt.same {K : PySem.W.Frag} {H H' : Hp} {oo : Addr} {as : List Addr} {os : List Opn} (h : OpnsAt K H oo as os) (k : Same H H') : OpnsAt K H' oo as os :=
  ⟨sqT_same k h.at_, paired_mono (fun _ _ => OpnAt.same k) h.each⟩
structure OpnOk (ks : List (Str × Int)) (o : Opn) : Prop where
  ww : o.w ∈ WW
  out : o.w ∉ ks.map (·.1)
  ex : ∃ m : Int, (o.k, m) ∈ ks ∧ 0 ≤ o.g ∧ o.g < m ∧ o.nn.length ≤ 2 ∧ ∀ n ∈ o.nn, NdOk m ks n
structure OsOk (ks : List (Str × Int)) (os : List Opn) : Prop where
  each : ∀ o ∈ os, OpnOk ks o
  asc : Asc (os.map (·.w))
  len : os.length ≤ 20
section
variable {P : Program} {w : World} {K : PySem.W.Frag} {mg : Str → Option Value} {base : Heap}
theorem scOne : FnScope ["counts", "kind"] ["counts", "kind"] (defScope sOne) := ⟨rfl, rfl, rfl, by decide +kernel, rfl, by decide +kernel, by decide +kernel⟩
def spOne : Sp := fun vs H Q _ => ∃ (cd : Addr) (c : Str) (ks : List (Str × Int)), vs = [.ref cd, .str c] ∧ Cnt H cd ks ∧ (c, (1 : Int)) ∈ ks ∧ c ∈ WW ∧ ∀ H', Same H H' → Q (.bl true) H'
theorem ok_one {f fW fI fA : Addr} {fd dW dI dA : FuncData} (F : Fun K "_has_one_part" "_has_one_part" sOne f fd) (T : TxtB K mg fW fI fA) (L : Lows P w K mg base fW fI fA dW dI dA) : FnOk P w K mg base CX0 2 f fd ["counts", "kind"] spOne := by
  refine F.ok scOne (fun vs H Q E h => ?_) (fun cdv A outer s H vs Q E hr h => ?_)
  · obtain ⟨_, _, _, rfl, _⟩ := h
    rfl
  · obtain ⟨cd, c, ks, rfl, hc, hm, hw, k⟩ := h
    have hu := hu_of hr
    refine ⟨_, pss_one (ps_ret (pe_and (pe_call L.W hr rfl T.gW T.kW L.bW .nil pass0 (pa_cons (pv 1) pa_nil))
      (pe_one (pe_cmpR op_eq (pe_dget2 hu (pv 0) (pv 1) pe_int ⟨rfl, by rfl, by rfl, rfl⟩) pe_int (nomark _))))), ?_⟩
    refine ⟨_, rfl, c, hw, rfl, fun H1 k1 => ⟨_, rfl, ite2 (fun _ => ?_) (fun z => absurd rfl z)⟩⟩
    obtain ⟨kvs, e, yes, no⟩ := hc.same k1
    exact ⟨_, rfl, cd, rfl, .inl ⟨kvs, .inl e⟩, _, rfl, some (.int 1), .inl ⟨kvs, .inr c, .inl e, rfl, (yes _ hm).symm⟩, rfl, k _ k1⟩
theorem scNeedQ : FnScope ["counts", "last", "need"] ["counts", "last", "need"] (defScope sNeedQ) := ⟨rfl, rfl, rfl, by decide +kernel, rfl, by decide +kernel, by decide +kernel⟩
def spNeedQ (K : PySem.W.Frag) : Sp := fun vs H Q _ => ∃ (cd a : Addr) (m : Int) (n : Nd) (ks : List (Str × Int)), vs = [.ref cd, .int (m - 1), .ref a] ∧ Cnt H cd ks ∧ (∀ p ∈ ks, p.1 ∈ WW) ∧ SqT K H a (ndV n) ∧ NdOk m ks n ∧ ∀ H', Same H H' → Q (.bl true) H'
theorem ok_needQ {f fO fW fI fA : Addr} {fd dO dW dI dA : FuncData} (F : Fun K "_is_need" "_is_need" sNeedQ f fd) (T : TxtB K mg fW fI fA) (L : Lows P w K mg base fW fI fA dW dI dA)
    (G : FnOk P w K mg base CX0 2 fO dO ["counts", "kind"] spOne) (bG : Binds K dO ["counts", "kind"] []) (gO : mg "_has_one_part" = some (.ref fO)) (kO : PySem.W.keepIn K (.ref fO) = true) : FnOk P w K mg base CX0 3 f fd ["counts", "last", "need"] (spNeedQ K) := by
  refine F.ok scNeedQ (fun vs H Q E h => ?_) (fun cdv A outer s H vs Q E hr h => ?_)
  · obtain ⟨_, _, _, _, _, rfl, _⟩ := h
    rfl
  · obtain ⟨cd, a, m, n, ks, rfl, hc, hw, ha, hn, k⟩ := h
    have hr1 : Room 1 _ := hr.mono (by decide)
    refine ⟨_, pss_cons (ps_if (PW.pt (pw_or (pt_not (pt_val (pe_callB call_isi (by rfl) T.isi (by decide +kernel) (pa_cons (pv 2) (pa_cons (pe_bltn (v := .ty "tuple") rfl T.tuple (by decide +kernel) rfl) pa_nil)))))
        (pw_or1 (pt_cmpR op_notIn_seq (pe_callB call_len_seq (by rfl) T.len PySem.boot_len (pa_cons (pv 2) pa_nil)) (pe_tup (pa_cons pe_int (pa_cons pe_int pa_nil))) (by with_unfolding_all rfl))))) (pss_one (ps_ret pe_bl)) pss_nil)
      (pss_cons (ps_if (pt_cmpR op_eq (pe_callB call_len_seq (by rfl) T.len PySem.boot_len (pa_cons (pv 2) pa_nil)) pe_int (nomark _))
        (pss_one (ps_ret (pe_and (pe_cmpR op_eq (pe_ix ix_tup (pv 2) pe_int (fun _ _ => rfl)) pe_str (nomark _)) (pe_one (pe_call L.I hr1 rfl T.gI T.kI L.bI .nil pass0 (pa_cons (pe_ix ix_tup (pv 2) pe_int (fun _ _ => rfl)) (pa_cons pe_int (pa_cons (pv 1) pa_nil)))))))) pss_nil)
      (pss_cons (ps_if (pt_cmpR op_eq (pe_ix ix_tup (pv 2) pe_int (fun _ _ => rfl)) pe_str (nomark _))
        (pss_one (ps_ret (pe_and (pe_call G hr rfl gO kO bG .nil pass0 (pa_cons (pv 0) (pa_cons (pe_ix ix_tup (pv 2) pe_int (fun _ _ => rfl)) pa_nil))) (pe_one (pe_call L.I hr1 rfl T.gI T.kI L.bI .nil pass0 (pa_cons (pe_ix ix_tup (pv 2) pe_int (fun _ _ => rfl)) (pa_cons pe_int (pa_cons (pv 1) pa_nil)))))))) pss_nil)
      (pss_one (ps_ret (pe_and (pe_cmpR op_eq (pe_ix ix_tup (pv 2) pe_int (fun _ _ => rfl)) pe_str (nomark _)) (pe_and (pe_call L.I hr1 rfl T.gI T.kI L.bI .nil pass0 (pa_cons (pe_ix ix_tup (pv 2) pe_int (fun _ _ => rfl)) (pa_cons pe_int (pa_cons (pv 1) pa_nil))))
        (pe_one (pe_call G hr rfl gO kO bG .nil pass0 (pa_cons (pv 0) (pa_cons (pe_ix ix_tup (pv 2) pe_int (fun _ _ => rfl)) pa_nil)))))))))), ?_⟩
    refine ⟨_, rfl, _, _, _, _, true, rfl, .ty "tuple", sqT_ty ha, kit_ty rfl, _, rfl, ite2 (fun z => absurd z (by decide)) (fun _ => ?_)⟩
    have k1 : ∀ {p : Addr}, H p = none → Same H (upd H p (.tup [.int 2, .int 3])) := fun hp => same_new same_rfl hp
    cases n with
    | part j =>
      obtain ⟨j0, j1⟩ := hn
      refine ⟨_, rfl, a, _, rfl, .inr ha, (by show 2 ≤ sizeLine; rw [sizeLine_eq]; decide), fun p hp => ⟨p, _, rfl, .inr (SqT.of upd_same), rfl, rfl, _, rfl, ite2 (fun z => absurd z (by show ¬ (!inV (.int ((2 : Nat) : Int)) [.int 2, .int 3]) = true; decide)) (fun _ => ?_)⟩⟩
      have ha1 := sqT_same (k1 hp) ha
      refine ⟨_, rfl, a, _, rfl, .inr ha1, rfl, _, rfl, ite2 (fun _ => ?_) (fun z => absurd (by show decide (V.int ((2 : Nat) : Int) = V.int 2) = true; decide) z)⟩
      refine ⟨_, rfl, a, _, _, _, rfl, rfl, ha1, rfl, rfl, _, rfl, ite2 (fun _ => ?_) (fun z => absurd (by decide) z)⟩
      exact ⟨_, rfl, a, _, _, _, rfl, rfl, ha1, rfl, _, rfl, j, 0, m - 1, rfl, j0, by omega, k _ (k1 hp)⟩
    | around c j =>
      obtain ⟨c1, j0, j1⟩ := hn
      refine ⟨_, rfl, a, _, rfl, .inr ha, (by show 2 ≤ sizeLine; rw [sizeLine_eq]; decide), fun p hp => ⟨p, _, rfl, .inr (SqT.of upd_same), rfl, rfl, _, rfl, ite2 (fun z => absurd z (by show ¬ (!inV (.int ((3 : Nat) : Int)) [.int 2, .int 3]) = true; decide)) (fun _ => ?_)⟩⟩
      have ha1 := sqT_same (k1 hp) ha
      refine ⟨_, rfl, a, _, rfl, .inr ha1, rfl, _, rfl, ite2 (fun z => absurd z (by show ¬ decide (V.int ((3 : Nat) : Int) = V.int 2) = true; decide)) (fun _ => ?_)⟩
      refine ⟨_, rfl, a, _, _, _, rfl, rfl, ha1, rfl, rfl, _, rfl, ite2 (fun _ => ?_) (fun z => absurd (by decide) z)⟩
      refine ⟨_, rfl, _, rfl, a, _, _, _, rfl, rfl, ha1, rfl, cd, c, ks, rfl, hc.same (k1 hp), c1, hw _ c1, fun H2 k2 => ⟨_, rfl, ite2 (fun _ => ?_) (fun z => absurd rfl z)⟩⟩
      exact ⟨_, rfl, a, _, _, _, rfl, rfl, sqT_same k2 ha1, rfl, _, rfl, j, 0, m - 1, rfl, j0, by omega, k _ (same_tr (k1 hp) k2)⟩
    | inside j c =>
      obtain ⟨c1, j0, j1⟩ := hn
      refine ⟨_, rfl, a, _, rfl, .inr ha, (by show 2 ≤ sizeLine; rw [sizeLine_eq]; decide), fun p hp => ⟨p, _, rfl, .inr (SqT.of upd_same), rfl, rfl, _, rfl, ite2 (fun z => absurd z (by show ¬ (!inV (.int ((3 : Nat) : Int)) [.int 2, .int 3]) = true; decide)) (fun _ => ?_)⟩⟩
      have ha1 := sqT_same (k1 hp) ha
      refine ⟨_, rfl, a, _, rfl, .inr ha1, rfl, _, rfl, ite2 (fun z => absurd z (by show ¬ decide (V.int ((3 : Nat) : Int) = V.int 2) = true; decide)) (fun _ => ?_)⟩
      refine ⟨_, rfl, a, _, _, _, rfl, rfl, ha1, rfl, rfl, _, rfl, ite2 (fun z => absurd z (by decide)) (fun _ => ?_)⟩
      refine ⟨_, rfl, a, _, _, _, rfl, rfl, ha1, rfl, rfl, _, rfl, ite2 (fun _ => ?_) (fun z => absurd (by decide) z)⟩
      refine ⟨_, rfl, a, _, _, _, rfl, rfl, ha1, rfl, _, rfl, j, 0, m - 1, rfl, j0, by omega, _, rfl, ite2 (fun _ => ?_) (fun z => absurd rfl z)⟩
      exact ⟨_, rfl, _, rfl, a, _, _, _, rfl, rfl, ha1, rfl, cd, c, ks, rfl, hc.same (k1 hp), c1, hw _ c1, fun H2 k2 => k _ (same_tr (k1 hp) k2)⟩
theorem scOpenQ : FnScope ["counts", "opening", "word", "kind", "given", "needs", "last", "need"] ["counts", "opening"] (defScope sOpenQ) := ⟨rfl, rfl, rfl, by decide +kernel, rfl, by decide +kernel, by decide +kernel⟩
def spOpenQ (K : PySem.W.Frag) : Sp := fun vs H Q _ => ∃ (cd a : Addr) (o : Opn) (ks : List (Str × Int)), vs = [.ref cd, .ref a] ∧ Cnt H cd ks ∧ (∀ p ∈ ks, p.1 ∈ WW) ∧ OpnAt K H a o ∧ OpnOk ks o ∧ ∀ H', Same H H' → Q (.bl true) H'
theorem ok_openQ {f fN fW fI fA : Addr} {fd dN dW dI dA : FuncData} (F : Fun K "_is_opening" "_is_opening" sOpenQ f fd) (T : TxtB K mg fW fI fA) (L : Lows P w K mg base fW fI fA dW dI dA)
    (G : FnOk P w K mg base CX0 3 fN dN ["counts", "last", "need"] (spNeedQ K)) (bG : Binds K dN ["counts", "last", "need"] []) (gN : mg "_is_need" = some (.ref fN)) (kN : PySem.W.keepIn K (.ref fN) = true) : FnOk P w K mg base CX0 4 f fd ["counts", "opening"] (spOpenQ K) := by
  refine F.ok scOpenQ (fun vs H Q E h => ?_) (fun cdv A outer s H vs Q E hr h => ?_)
  · obtain ⟨_, _, _, _, rfl, _⟩ := h
    rfl
  · obtain ⟨cd, a, o, ks, rfl, hc, hw, hoA, ok, k⟩ := h
    have hu := hu_of hr
    have hr1 : Room 1 _ := hr.mono (by decide)
    obtain ⟨b, as, ha, hb, hp⟩ := id hoA
    obtain ⟨m, hm, g0, g1, nl, hn⟩ := ok.ex
    refine ⟨_, pss_cons (ps_if (PW.pt (pw_or (pt_not (pt_val (pe_callB call_isi (by rfl) T.isi (by decide +kernel) (pa_cons (pv 1) (pa_cons (pe_bltn (v := .ty "tuple") rfl T.tuple (by decide +kernel) rfl) pa_nil)))))
        (pw_or1 (pt_cmpR op_ne (pe_callB call_len_seq (by rfl) T.len PySem.boot_len (pa_cons (pv 1) pa_nil)) pe_int (nomark _))))) (pss_one (ps_ret pe_bl)) pss_nil)
      (pss_cons (ps_asg (pv 1) (pg_tup rfl (pgs_cons (pg_name (i := 2) scOpenQ.nd rfl (.inl rfl)) (pgs_cons (pg_name (i := 3) scOpenQ.nd rfl (.inl rfl)) (pgs_cons (pg_name (i := 4) scOpenQ.nd rfl (.inl rfl)) (pgs_cons (pg_name (i := 5) scOpenQ.nd rfl (.inl rfl)) pgs_nil))))))
      (pss_cons (ps_if (PW.pt (pw_or (pt_not (pt_val (pe_call L.W hr1 rfl T.gW T.kW L.bW .nil pass0 (pa_cons (pv 2) pa_nil)))) (pw_or (pt_cmp (pc_din hu (pv 2) (pv 0)) (by with_unfolding_all rfl))
        (pw_or (pt_not (pt_val (pe_call L.W hr1 rfl T.gW T.kW L.bW .nil pass0 (pa_cons (pv 3) pa_nil)))) (pw_or1 (pt_cmp (pc_dnotin hu (pv 3) (pv 0)) (by with_unfolding_all rfl))))))) (pss_one (ps_ret pe_bl)) pss_nil)
      (pss_cons (ps_set (i := 6) scOpenQ.nd rfl (.inr rfl) (pe_op op_sub (pe_dget hu (pv 0) (pv 3) (fun _ _ => rfl)) pe_int))
      (pss_cons (ps_if (PW.pt (pw_or (pt_not (pt_val (pe_call L.I hr1 rfl T.gI T.kI L.bI .nil pass0 (pa_cons (pv 4) (pa_cons pe_int (pa_cons (pv 6) pa_nil))))))
        (pw_or (pt_not (pt_val (pe_callB call_isi (by rfl) T.isi (by decide +kernel) (pa_cons (pv 5) (pa_cons (pe_bltn (v := .ty "tuple") rfl T.tuple (by decide +kernel) rfl) pa_nil)))))
        (pw_or1 (pt_cmpR op_gt (pe_callB call_len_seq (by rfl) T.len PySem.boot_len (pa_cons (pv 5) pa_nil)) (C8.pe_gc (v := .int 2) rfl T.mostN) (nomark _)))))) (pss_one (ps_ret pe_bl)) pss_nil)
      (pss_one (ps_ret (pe_callB (cr_all rfl) (by rfl) T.all (by decide +kernel) (pa_cons (pe_lc (own := [("need", 7)]) (g := gName 7) (tt := tYes) rfl scOpenQ.nd (pi_tup (pv 5))
        (blkOk_by (own := [("need", 7)]) (N := ["counts", "opening", "word", "kind", "given", "needs", "last", "need"]) (sc := defScope sOpenQ) (by decide +kernel))
        (fun _ _ _ _ _ => pg_name (i := 7) scOpenQ.nd rfl (Or.inl rfl)) (fun _ _ _ _ _ => pts_nil) (fun _ _ _ _ _ => pe_call G hr rfl gN kN bG .nil pass0 (pa_cons (pv 0) (pa_cons (pv 6) (pa_cons (pv 7) pa_nil))))) pa_nil)))))))), ?_⟩
    refine ⟨_, rfl, _, _, _, _, true, rfl, .ty "tuple", sqT_ty ha, kit_ty rfl, _, rfl, ite2 (fun z => absurd z (by decide)) (fun _ => ?_)⟩
    refine ⟨_, rfl, a, _, rfl, .inr ha, rfl, _, rfl, ite2 (fun z => absurd z (by show ¬ (!decide (V.int ((4 : Nat) : Int) = V.int 4)) = true; decide)) (fun _ => ?_)⟩
    refine ⟨_, rfl, a, _, rfl, ha, rfl, _, _, rfl, _, _, rfl, _, _, rfl, _, _, rfl, rfl, ?_⟩
    refine ⟨_, rfl, o.w, ok.ww, rfl, fun H1 k1 => ⟨_, rfl, ite2 (fun z => absurd z (by decide)) (fun _ => ?_)⟩⟩
    obtain ⟨kvs, e1, yes, no⟩ := hc.same k1
    refine ⟨_, rfl, _, rfl, cd, none, rfl, .inl ⟨kvs, .inr o.w, .inl e1, rfl, (no _ ok.out).symm⟩, _, rfl, ite2 (fun z => absurd z (by decide)) (fun _ => ?_)⟩
    refine ⟨_, rfl, o.k, hw _ hm, rfl, fun H2 k2 => ⟨_, rfl, ite2 (fun z => absurd z (by decide)) (fun _ => ?_)⟩⟩
    have e2 := k2 _ _ e1
    have k02 := same_tr k1 k2
    have hkv : DGet H2 cd (.str o.k) (some (.int m)) := .inl ⟨kvs, .inr o.k, .inl e2, rfl, (yes _ hm).symm⟩
    refine ⟨_, rfl, _, rfl, cd, _, rfl, hkv, _, rfl, ite2 (fun z => absurd z (by show ¬ (!true) = true; decide)) (fun _ => ?_)⟩
    refine ⟨_, rfl, _, rfl, cd, _, rfl, hkv, _, _, rfl, rfl, ?_⟩
    have hb2 := sqT_same k02 hb
    have hpl := hp.length
    refine ⟨_, rfl, _, rfl, o.g, 0, m - 1, rfl, g0, by omega, _, rfl, ite2 (fun z => absurd z (by decide)) (fun _ => ?_)⟩
    refine ⟨_, rfl, _, _, _, _, true, rfl, .ty "tuple", sqT_ty hb2, kit_ty rfl, _, rfl, ite2 (fun z => absurd z (by decide)) (fun _ => ?_)⟩
    refine ⟨_, rfl, b, _, rfl, .inr hb2, _, _, rfl, rfl, _, rfl, ite2 (fun z => ?_) (fun _ => ?_)⟩
    · have z := of_decide_eq_true z
      rw [List.length_map] at z
      omega
    refine ⟨_, rfl, b, rfl, ⟨_, hb2⟩, fun D hD => ?_⟩
    refine lc_tup (K := K) (a := b) (xs := as.map V.ref) (fun i H' => H' D = some (.lst ((List.replicate i true).map V.bl)) ∧ Same H2 H') ⟨upd_same, same_new same_rfl hD⟩ (fun i H' _ h => sqT_same h.2 hb2) ?_ ?_
    · rintro i y H3 hi ⟨e3, s3⟩
      rw [List.getElem?_map] at hi
      obtain ⟨x, hx, rfl⟩ := Option.map_eq_some_iff.mp hi
      obtain ⟨n, hnn, hq⟩ := paired_at hp hx
      have il : i < as.length := (List.getElem?_eq_some_iff.mp hx).1
      refine ⟨rfl, ?_⟩
      unfold tYes
      dsimp only
      rw [if_pos rfl]
      refine ⟨_, rfl, _, rfl, _, rfl, cd, x, m, n, ks, rfl, hc.same (same_tr k02 s3), hw, sqT_same (same_tr k02 s3) hq, hn n (List.mem_of_getElem? hnn), fun H4 s4 => ⟨_, s4 _ _ e3, ?_, ?_, ?_⟩⟩
      · rw [List.length_map, List.length_replicate, sizeLine_eq]
        omega
      · rw [upd_same, rep_snoc]
      · exact fun b o e => (upd_ne (ne_of_none e hD)).trans (s4 _ _ (s3 _ _ e))
    · rintro H3 ⟨e3, s3⟩
      refine ⟨D, _, rfl, SqL.of e3, ?_⟩
      rw [rep_all]
      exact k _ (same_tr k02 s3)
theorem scOpens : FnScope ["counts", "openings", "right", "opening"] ["counts", "openings"] (defScope sOpens) := ⟨rfl, rfl, rfl, by decide +kernel, rfl, by decide +kernel, by decide +kernel⟩
def spOpens (K : PySem.W.Frag) : Sp := fun vs H Q _ => ∃ (cd oo : Addr) (as : List Addr) (os : List Opn) (ks : List (Str × Int)), vs = [.ref cd, .ref oo] ∧ Cnt H cd ks ∧ (∀ p ∈ ks, p.1 ∈ WW) ∧ OpnsAt K H oo as os ∧ OsOk ks os ∧ ∀ H', Same H H' → Q (.bl true) H'
theorem ok_opens {f fQ fW fI fA : Addr} {fd dQ dW dI dA : FuncData} (F : Fun K "_are_openings" "_are_openings" sOpens f fd) (T : TxtB K mg fW fI fA) (L : Lows P w K mg base fW fI fA dW dI dA)
    (G : FnOk P w K mg base CX0 4 fQ dQ ["counts", "opening"] (spOpenQ K)) (bG : Binds K dQ ["counts", "opening"] []) (gQ : mg "_is_opening" = some (.ref fQ)) (kQ : PySem.W.keepIn K (.ref fQ) = true) : FnOk P w K mg base CX0 5 f fd ["counts", "openings"] (spOpens K) := by
  refine F.ok scOpens (fun vs H Q E h => ?_) (fun cdv A outer s H vs Q E hr h => ?_)
  · obtain ⟨_, _, _, _, _, rfl, _⟩ := h
    rfl
  · obtain ⟨cd, oo, as, os, ks, rfl, hc, hw, hA, ok, k⟩ := h
    have hr1 : Room 1 _ := hr.mono (by decide)
    have hl := hA.each.length
    have hlen := ok.len
    refine ⟨_, pss_cons (ps_if (pt_not (pt_val (pe_callB call_isi (by rfl) T.isi (by decide +kernel) (pa_cons (pv 1) (pa_cons (pe_bltn (v := .ty "tuple") rfl T.tuple (by decide +kernel) rfl) pa_nil))))) (pss_one (ps_ret pe_bl)) pss_nil)
      (pss_cons (ps_set (i := 2) scOpens.nd rfl (.inl rfl) (pe_callB (cr_all rfl) (by rfl) T.all (by decide +kernel) (pa_cons (pe_lc (own := [("opening", 3)]) (g := gName 3) (tt := tYes) rfl scOpens.nd (pi_tup (pv 1))
        (blkOk_by (own := [("opening", 3)]) (N := ["counts", "openings", "right", "opening"]) (sc := defScope sOpens) (by decide +kernel))
        (fun _ _ _ _ _ => pg_name (i := 3) scOpens.nd rfl (Or.inl rfl)) (fun _ _ _ _ _ => pts_nil) (fun _ _ _ _ _ => pe_call G hr rfl gQ kQ bG .nil pass0 (pa_cons (pv 0) (pa_cons (pv 3) pa_nil)))) pa_nil)))
      (pss_one (ps_ret (pe_and (pv 2) (pe_one (pe_call L.A hr1 rfl T.gA T.kA L.bA .nil pass0 (pa_cons (pe_lc (own := [("opening", 3)]) (g := gName 3) (tt := tYes) rfl scOpens.nd (pi_tup (pv 1))
        (blkOk_by (own := [("opening", 3)]) (N := ["counts", "openings", "right", "opening"]) (sc := defScope sOpens) (by decide +kernel))
        (fun _ _ _ _ _ => pg_name (i := 3) scOpens.nd rfl (Or.inl rfl)) (fun _ _ _ _ _ => pts_nil) (fun _ _ _ _ _ => pe_ix (show IxR _ (rIxT K) from ix_tup) (pv 3) pe_int (fun _ _ => rfl))) pa_nil))))))), ?_⟩
    refine ⟨_, rfl, _, _, _, _, true, rfl, .ty "tuple", sqT_ty hA.at_, kit_ty rfl, _, rfl, ite2 (fun z => absurd z (by decide)) (fun _ => ?_)⟩
    refine ⟨_, rfl, oo, rfl, ⟨_, hA.at_⟩, fun D hD => ?_⟩
    refine lc_tup (K := K) (a := oo) (xs := as.map V.ref) (fun i H' => H' D = some (.lst ((List.replicate i true).map V.bl)) ∧ Same H H') ⟨upd_same, same_new same_rfl hD⟩ (fun i H' _ h => sqT_same h.2 hA.at_) ?_ ?_
    · rintro i y H1 hi ⟨e1, s1⟩
      rw [List.getElem?_map] at hi
      obtain ⟨a, ha, rfl⟩ := Option.map_eq_some_iff.mp hi
      obtain ⟨o, ho, hq⟩ := paired_at hA.each ha
      have il : i < as.length := (List.getElem?_eq_some_iff.mp ha).1
      refine ⟨rfl, ?_⟩
      unfold tYes
      dsimp only
      rw [if_pos rfl]
      refine ⟨_, rfl, _, rfl, cd, a, o, ks, rfl, hc.same s1, hw, OpnAt.same s1 hq, ok.each o (List.mem_of_getElem? ho), fun H2 s2 => ⟨_, s2 _ _ e1, ?_, ?_, ?_⟩⟩
      · rw [List.length_map, List.length_replicate, sizeLine_eq]
        omega
      · rw [upd_same, rep_snoc]
      · exact fun b o e => (upd_ne (ne_of_none e hD)).trans (s2 _ _ (s1 _ _ e))
    · rintro H1 ⟨e1, s1⟩
      refine ⟨D, _, rfl, SqL.of e1, ?_⟩
      rw [rep_all]
      refine ⟨_, rfl, _, rfl, ite2 (fun _ => ?_) (fun z => absurd rfl z)⟩
      have hA1 := hA.same s1
      refine ⟨_, rfl, oo, rfl, ⟨_, hA1.at_⟩, fun E1 hE => ?_⟩
      refine lc_tup (K := K) (a := oo) (xs := as.map V.ref) (fun i H' => H' = upd H1 E1 (.lst (((os.take i).map (·.w)).map V.str))) rfl (fun i H' _ h => by rw [h]; exact sqT_same (same_new same_rfl hE) hA1.at_) ?_ ?_
      · rintro i y H2 hi rfl
        rw [List.getElem?_map] at hi
        obtain ⟨a, ha, rfl⟩ := Option.map_eq_some_iff.mp hi
        obtain ⟨o, ho, b, bs, hq, _⟩ := paired_at hA1.each ha
        have il : i < os.length := (List.getElem?_eq_some_iff.mp ho).1
        refine ⟨rfl, ?_⟩
        unfold tYes
        dsimp only
        rw [if_pos rfl]
        refine ⟨_, rfl, a, _, _, _, rfl, rfl, sqT_same (same_new same_rfl hE) hq, rfl, _, upd_same, ?_, ?_⟩
        · rw [List.length_map, List.length_map, List.length_take, sizeLine_eq]
          omega
        · rw [upd_upd, List.take_add_one, ho, List.map_append, List.map_append]
          rfl
      · rintro H2 rfl
        rw [List.length_map, hl, List.take_of_length_le (Nat.le_refl _)]
        exact ⟨E1, os.map (·.w), rfl, upd_same, by rw [List.length_map]; omega, ok.asc, fun H3 s3 => k H3 (same_tr (same_new s1 hE) s3)⟩
end
end K12

set_option Elab.async false
set_option linter.all false
set_option maxRecDepth 100000
set_option maxHeartbeats 4000000
/-! Book(kinds, openings). -/
namespace K12
open PySem PySem.Spec PyProof.Rows L2 Mine
abbrev sInit : Stmt := inClass (top 33) 0
abbrev fsB (kk oo : Addr) : List (Str × V) := [(PySem.Str.ofString "kinds", .ref kk), (PySem.Str.ofString "openings", .ref oo)]
def spInit (K : PySem.W.Frag) (C : Addr) : Sp := fun vs H Q _ => ∃ (x dx kk oo : Addr) (ps as : List Addr) (ks : List (Str × Int)) (os : List Opn), vs = [.ref x, .ref kk, .ref oo] ∧ H x = some (.ins C dx []) ∧ KindsAt K H kk ps ks ∧ KsOk ks ∧ OpnsAt K H oo as os ∧ OsOk ks os ∧
  ∀ H', (∀ b o, b ≠ x → H b = some o → H' b = some o) → H' x = some (.ins C dx (fsB kk oo)) → Q .non H'
structure TxtI (K : PySem.W.Frag) (mg : Str → Option Value) (C fKs fOs : Addr) : Prop where
  cl : Cls K C
  nK : NoAttr K C "kinds"
  nO : NoAttr K C "openings"
  gKs : mg "_are_kinds" = some (.ref fKs)
  kKs : PySem.W.keepIn K (.ref fKs) = true
  gOs : mg "_are_openings" = some (.ref fOs)
  kOs : PySem.W.keepIn K (.ref fOs) = true
theorem ps_dead {X : Cx} {st : Stmt} : PS X st (fun _ _ _ => False) := ⟨fun _ _ _ _ _ _ h => h.elim⟩
section
variable {P : Program} {w : World} {K : PySem.W.Frag} {mg : Str → Option Value} {base : Heap}
theorem scInit : FnScope ["self", "kinds", "openings"] ["self", "kinds", "openings"] (defScope sInit) := ⟨rfl, rfl, rfl, by decide +kernel, rfl, by decide +kernel, by decide +kernel⟩
theorem ok_init {f C fKs fOs fW fI fA : Addr} {fd dKs dOs : FuncData} (F : Fun K "__init__" "Book.__init__" sInit f fd) (T : TxtI K mg C fKs fOs) (TW : TxtW mg) (GK : FnOk P w K mg base CX0 3 fKs dKs ["kinds"] (spKinds K)) (bK : Binds K dKs ["kinds"] [])
    (GO : FnOk P w K mg base CX0 5 fOs dOs ["counts", "openings"] (spOpens K)) (bO : Binds K dOs ["counts", "openings"] []) : FnOk P w K mg base CX0 6 f fd ["self", "kinds", "openings"] (spInit K C) := by
  refine F.ok scInit (fun vs H Q E h => ?_) (fun cdv A outer s H vs Q E hr h => ?_)
  · obtain ⟨_, _, _, _, _, _, _, _, rfl, _⟩ := h
    rfl
  · obtain ⟨x, dx, kk, oo, ps, as, ks, os, rfl, hx, hk, kok, ho, ook, k⟩ := h
    have hr3 : Room 3 _ := hr.mono (by decide)
    refine ⟨_, pss_cons (ps_if (pt_not (pt_val (pe_call GK hr3 rfl T.gKs T.kKs bK .nil pass0 (pa_cons (pv 1) pa_nil)))) (pss_one ps_dead) pss_nil)
      (pss_cons (ps_if (pt_not (pt_val (pe_call GO hr rfl T.gOs T.kOs bO .nil pass0 (pa_cons (pe_callTy (call_dictPT rfl) (by rfl) TW.dict (by decide +kernel) (pa_cons (pv 1) pa_nil)) (pa_cons (pv 2) pa_nil))))) (pss_one ps_dead) pss_nil)
      (pss_cons (ps_fld (pv 0) (pv 1) rfl) (pss_one (ps_fld (pv 0) (pv 2) rfl)))), ?_⟩
    refine ⟨_, rfl, kk, ps, ks, rfl, hk, kok, fun H1 k1 => ⟨_, rfl, ite2 (fun z => absurd z (by decide)) (fun _ => ?_)⟩⟩
    have hk1 := hk.same k1
    refine ⟨_, rfl, kk, ps, _, rfl, hk1.at_, paired_kv hk1.each, fun p hp => ⟨_, rfl, p, oo, as, os, ks, rfl, cnt_new kok.nd, kok.ww, ho.same (same_new k1 hp), ook, fun H2 k2 => ⟨_, rfl, ite2 (fun z => absurd z (by decide)) (fun _ => ?_)⟩⟩⟩
    have k02 := same_tr (same_new k1 hp) k2
    have hx2 := k02 _ _ hx
    refine ⟨_, rfl, _, rfl, x, C, dx, [], rfl, hx2, T.cl, T.nK, (by show 0 < 1000; decide), _, rfl, _, rfl, x, C, dx, _, rfl, upd_same, T.cl, T.nO, (by show 1 < 1000; decide), ?_⟩
    rw [upd_upd]
    exact k _ (fun b o hb e => (upd_ne hb).trans (k02 _ _ e)) upd_same
end
end K12

set_option Elab.async false
set_option linter.all false
set_option maxRecDepth 100000
set_option maxHeartbeats 4000000
/-! Things as data: parts, pieces, sizes, texts. -/
namespace Mine
open PySem PySem.Spec PyProof.Rows L2 TL
/-- the parts of a thing -/
def kids : PyData → List PyData
  | .tuple (_ :: ds) => ds
  | _ => []
mutual
/-- a word or name, or a kind and at least one part -/
def thing : PyData → Bool
  | .str _ => true
  | .tuple (.str _ :: d :: ds) => thing d && thingAll ds
  | _ => false
def thingAll : List PyData → Bool
  | [] => true
  | d :: ds => thing d && thingAll ds
end
theorem thingAll_iff {ds : List PyData} : thingAll ds = true ↔ ∀ d ∈ ds, thing d = true := by
  induction ds with
  | nil => simp [thingAll]
  | cons d ds ih => simp only [thingAll, Bool.and_eq_true, ih, List.mem_cons, forall_eq_or_imp]
theorem thing_cases {d : PyData} (h : thing d = true) : (∃ c, d = .str c) ∨ ∃ c ps, d = .tuple (.str c :: ps) ∧ ps ≠ [] ∧ ∀ p ∈ ps, thing p = true := by
  cases d with
  | str c => exact .inl ⟨c, rfl⟩
  | tuple ds =>
    match ds, h with
    | .str c :: p :: ps, h =>
      refine .inr ⟨c, p :: ps, rfl, List.cons_ne_nil _ _, ?_⟩
      have h' : thing p = true ∧ thingAll ps = true := by simpa [thing] using h
      intro x hx
      rcases List.mem_cons.mp hx with rfl | hx
      · exact h'.1
      · exact thingAll_iff.mp h'.2 x hx
    | [], h => simp [thing] at h
    | [x], h => cases x <;> simp [thing] at h
    | .none :: _ :: _, h => simp [thing] at h
    | .bool _ :: _ :: _, h => simp [thing] at h
    | .int _ :: _ :: _, h => simp [thing] at h
    | .list _ :: _ :: _, h => simp [thing] at h
    | .tuple _ :: _ :: _, h => simp [thing] at h
    | .dict _ :: _ :: _, h => simp [thing] at h
  | none => simp [thing] at h
  | bool _ => simp [thing] at h
  | int _ => simp [thing] at h
  | list _ => simp [thing] at h
  | dict _ => simp [thing] at h
theorem thing_kids {d p : PyData} (h : thing d = true) (hp : p ∈ kids d) : thing p = true := by
  rcases thing_cases h with ⟨c, rfl⟩ | ⟨c, ps, rfl, _, e⟩
  · exact (List.not_mem_nil hp).elim
  · exact e p hp
mutual
/-- all pieces, wholes ahead of their parts -/
def lot : PyData → List PyData
  | .tuple [] => [.tuple []]
  | .tuple (k :: ds) => .tuple (k :: ds) :: lots ds
  | d => [d]
def lots : List PyData → List PyData
  | [] => []
  | d :: ds => lot d ++ lots ds
end
theorem lots_eq (ds : List PyData) : lots ds = ds.flatMap lot := by
  induction ds with
  | nil => simp [lots]
  | cons d ds ih => simp [lots, ih]
theorem lot_eq (d : PyData) : lot d = d :: (kids d).flatMap lot := by
  cases d with
  | tuple ds =>
    cases ds with
    | nil => simp [lot, kids]
    | cons k ds => simp [lot, kids, lots_eq]
  | none => simp [lot, kids]
  | bool _ => simp [lot, kids]
  | int _ => simp [lot, kids]
  | str _ => simp [lot, kids]
  | list _ => simp [lot, kids]
  | dict _ => simp [lot, kids]
def sz (d : PyData) : Nat := (lot d).length
theorem sz_pos (d : PyData) : 1 ≤ sz d := by
  unfold sz
  rw [lot_eq]
  simp
mutual
/-- the text of a thing -/
def txt : PyData → Str
  | .str c => c
  | .tuple (.str c :: ds) => c ++ PySem.Str.ofString "(" ++ Str.join (PySem.Str.ofString ",") (txts ds) ++ PySem.Str.ofString ")"
  | _ => Str.empty
def txts : List PyData → List Str
  | [] => []
  | d :: ds => txt d :: txts ds
end
theorem txts_eq (ds : List PyData) : txts ds = ds.map txt := by
  induction ds with
  | nil => simp [txts]
  | cons d ds ih => simp [txts, ih]
theorem txt_tup (c : Str) (ds : List PyData) : txt (.tuple (.str c :: ds)) = c ++ PySem.Str.ofString "(" ++ Str.join (PySem.Str.ofString ",") (ds.map txt) ++ PySem.Str.ofString ")" := by
  rw [← txts_eq]
  simp only [txt]
theorem txt_str (c : Str) : txt (.str c) = c := by simp only [txt]
/-- the pieces of some things as a worklist lists them -/
structure Bfs (ts P : List PyData) : Prop where
  eq : P = ts ++ P.flatMap kids
  far : ∀ i, i < P.length → i < ts.length + ((P.take i).flatMap kids).length
  perm : P.Perm (ts.flatMap lot)
/-- .. under way: some are done, some are left -/
structure BfsW (ts D T : List PyData) : Prop where
  eq : D ++ T = ts ++ D.flatMap kids
  far : ∀ i, i < D.length → i < ts.length + ((D.take i).flatMap kids).length
  perm : (D ++ T.flatMap lot).Perm (ts.flatMap lot)
theorem BfsW.init (ts : List PyData) : BfsW ts [] ts := ⟨by simp, fun i h => by simp at h, by simp⟩
theorem BfsW.step {ts D T : List PyData} {x : PyData} (h : BfsW ts D (x :: T)) : BfsW ts (D ++ [x]) (T ++ kids x) := by
  refine ⟨?_, fun i hi => ?_, ?_⟩
  · rw [List.flatMap_append, List.append_assoc, ← List.append_assoc ts, ← h.eq]
    simp
  · rw [List.length_append] at hi
    rcases Nat.lt_or_ge i D.length with l | l
    · rw [List.take_append_of_le_length (by omega)]
      exact h.far i l
    · have e : i = D.length := by simp at hi; omega
      subst e
      rw [List.take_append_of_le_length (Nat.le_refl _), List.take_length]
      have := congrArg List.length h.eq
      simp only [List.length_append, List.length_cons] at this
      omega
  · refine List.Perm.trans ?_ h.perm
    rw [List.flatMap_append, List.flatMap_cons, lot_eq x]
    rw [List.append_assoc]
    refine List.Perm.append_left D ?_
    rw [List.singleton_append, List.cons_append]
    exact List.Perm.cons x List.perm_append_comm
theorem BfsW.fin {ts D : List PyData} (h : BfsW ts D []) : Bfs ts D := by
  refine ⟨?_, h.far, ?_⟩
  · have := h.eq
    rwa [List.append_nil] at this
  · have := h.perm
    simpa using this
theorem BfsW.count {ts D T : List PyData} (h : BfsW ts D T) : D.length + T.length ≤ (ts.flatMap lot).length := by
  have e := h.perm.length_eq
  rw [List.length_append] at e
  have : T.length ≤ (T.flatMap lot).length := by
    clear h e
    induction T with
    | nil => simp
    | cons x T ih =>
      rw [List.flatMap_cons, List.length_append, List.length_cons]
      have := sz_pos x
      unfold sz at this
      omega
  omega
theorem Bfs.len {ts P : List PyData} (h : Bfs ts P) : P.length = (ts.flatMap lot).length := h.perm.length_eq
/-- the place of a piece's parts -/
theorem Bfs.at_ {ts P : List PyData} (h : Bfs ts P) {i : Nat} {x : PyData} (hx : P[i]? = some x) :
    (P.drop (ts.length + ((P.take i).flatMap kids).length)).take (kids x).length = kids x ∧ ts.length + ((P.take (i + 1)).flatMap kids).length = ts.length + ((P.take i).flatMap kids).length + (kids x).length ∧
      ts.length + ((P.take i).flatMap kids).length + (kids x).length ≤ P.length ∧ i < ts.length + ((P.take i).flatMap kids).length := by
  have il : i < P.length := (List.getElem?_eq_some_iff.mp hx).1
  have e1 : P.take (i + 1) = P.take i ++ [x] := by rw [List.take_add_one, hx]; rfl
  have e2 : P = P.take i ++ (x :: P.drop (i + 1)) := by
    have := (List.take_append_drop (i + 1) P).symm
    rw [e1, List.append_assoc] at this
    exact this
  have e3 : P = (ts ++ (P.take i).flatMap kids) ++ (kids x ++ (P.drop (i + 1)).flatMap kids) := by
    have := h.eq
    conv at this => rhs; rw [e2]
    rw [List.flatMap_append, List.flatMap_cons] at this
    rw [List.append_assoc]
    exact this
  refine ⟨?_, ?_, ?_, h.far i il⟩
  · have g : ∀ (A B : List PyData), P = A ++ (kids x ++ B) → (P.drop A.length).take (kids x).length = kids x := fun A B e => by
      rw [e, List.drop_left, List.take_left]
    have := g _ _ e3
    rwa [List.length_append] at this
  · rw [e1, List.flatMap_append, List.length_append]
    simp only [List.flatMap_cons, List.flatMap_nil, List.append_nil]
    omega
  · have := congrArg List.length e3
    simp only [List.length_append] at this
    omega
theorem Bfs.all {ts P : List PyData} (h : Bfs ts P) : P.length = ts.length + (P.flatMap kids).length := by
  have := congrArg List.length h.eq
  rwa [List.length_append] at this
theorem flat_ge {q : PyData} : ∀ {l : List PyData}, q ∈ l → (lot q).length ≤ (l.flatMap lot).length
  | y :: ys, h => by
    rw [List.flatMap_cons, List.length_append]
    rcases List.mem_cons.mp h with rfl | h
    · omega
    · have := flat_ge h
      omega
theorem lot_thing : ∀ (n : Nat) (d : PyData), sz d ≤ n → thing d = true → ∀ p ∈ lot d, thing p = true
  | 0, d, hn, _ => by have := sz_pos d; omega
  | n + 1, d, hn, h => by
    intro p hp
    rw [lot_eq] at hp
    rcases List.mem_cons.mp hp with rfl | hp
    · exact h
    · obtain ⟨q, hq, hp⟩ := List.mem_flatMap.mp hp
      have : sz q < sz d := by
        unfold sz
        rw [lot_eq d, List.length_cons]
        have : (lot q).length ≤ ((kids d).flatMap lot).length := flat_ge hq
        omega
      exact lot_thing n q (by omega) (thing_kids h hq) p hp
theorem Bfs.things {ts P : List PyData} (h : Bfs ts P) (ht : ∀ t ∈ ts, thing t = true) : ∀ p ∈ P, thing p = true := fun p hp => by
  obtain ⟨t, ht1, ht2⟩ := List.mem_flatMap.mp (h.perm.mem_iff.mp hp)
  exact lot_thing _ t (Nat.le_refl _) (ht t ht1) p ht2
end Mine

set_option Elab.async false
set_option linter.all false
set_option maxRecDepth 100000
set_option maxHeartbeats 4000000
/-! Tables merged; sorted texts; things told by their texts. -/
namespace Mine
open PySem PySem.Spec PyProof.Rows L2 TL
theorem keys_put {kvs : List (Key × V)} {k : Key} {v : V} : (k ∈ kvs.map (·.1) → (putK kvs k v).map (·.1) = kvs.map (·.1)) ∧ (k ∉ kvs.map (·.1) → (putK kvs k v).map (·.1) = kvs.map (·.1) ++ [k]) := by
  unfold putK
  have a : ((kvs.any fun kv => decide (kv.1 = k)) = true) ↔ k ∈ kvs.map (·.1) := by
    rw [List.any_eq_true, List.mem_map]
    constructor
    · rintro ⟨x, hx, e⟩
      exact ⟨x, hx, of_decide_eq_true e⟩
    · rintro ⟨x, hx, e⟩
      exact ⟨x, hx, decide_eq_true e⟩
  refine ⟨fun h => ?_, fun h => ?_⟩
  · rw [if_pos (a.mpr h), List.map_map]
    refine List.map_congr_left fun x _ => ?_
    show (if x.1 = k then (x.1, v) else x).1 = x.1
    split <;> rfl
  · rw [if_neg fun z => h (a.mp z), List.map_append]
    rfl
theorem merge_all {R : Key → V → Prop} : ∀ {l kvs : List (Key × V)}, (kvs.map (·.1)).Nodup → (∀ k v, valV kvs k = some v → R k v) → (∀ p ∈ l, R p.1 p.2) →
    ((mergeK kvs l).map (·.1)).Nodup ∧ (∀ k v, valV (mergeK kvs l) k = some v → R k v) ∧ (∀ k, k ∈ (mergeK kvs l).map (·.1) ↔ k ∈ kvs.map (·.1) ∨ k ∈ l.map (·.1))
  | [], kvs, n, a, _ => ⟨n, a, fun k => by simp [mergeK]⟩
  | p :: l, kvs, n, a, b => by
    have e : mergeK kvs (p :: l) = mergeK (putK kvs p.1 p.2) l := rfl
    obtain ⟨kp, kq⟩ := keys_put (kvs := kvs) (k := p.1) (v := p.2)
    have n' : ((putK kvs p.1 p.2).map (·.1)).Nodup := by
      by_cases h : p.1 ∈ kvs.map (·.1)
      · rw [kp h]; exact n
      · rw [kq h]
        exact List.nodup_append.mpr ⟨n, by simp, fun x hx y hy => by
          rw [List.mem_singleton.mp hy]
          intro z
          rw [z] at hx
          exact h hx⟩
    obtain ⟨h1, h2, h3⟩ := merge_all (R := R) (l := l) (kvs := putK kvs p.1 p.2) n' (fun k v hv => by
      rw [valV_put] at hv
      by_cases z : k = p.1
      · rw [if_pos z] at hv
        cases hv
        rw [z]
        exact b p (List.mem_cons_self ..)
      · rw [if_neg z] at hv
        exact a k v hv) fun x hx => b x (List.mem_cons_of_mem _ hx)
    rw [e]
    refine ⟨h1, h2, fun k => ?_⟩
    rw [h3 k, List.map_cons, List.mem_cons]
    by_cases h : p.1 ∈ kvs.map (·.1)
    · rw [kp h]
      constructor
      · rintro (z | z)
        · exact .inl z
        · exact .inr (.inr z)
      · rintro (z | rfl | z)
        · exact .inl z
        · exact .inl h
        · exact .inr z
    · rw [kq h, List.mem_append, List.mem_singleton]
      constructor
      · rintro ((z | z) | z)
        · exact .inl z
        · exact .inr (.inl z)
        · exact .inr (.inr z)
      · rintro (z | z | z)
        · exact .inl (.inl z)
        · exact .inl (.inr z)
        · exact .inr z
theorem val_some {kvs : List (Key × V)} {k : Key} (h : k ∈ kvs.map (·.1)) : ∃ v, valV kvs k = some v := by
  have a := valV_any k kvs
  obtain ⟨p, hp, rfl⟩ := List.mem_map.mp h
  have : (kvs.any fun kv => decide (kv.1 = p.1)) = true := List.any_eq_true.mpr ⟨p, hp, decide_eq_true rfl⟩
  rw [this] at a
  exact Option.isSome_iff_exists.mp a.symm
/-! ascending texts -/
def LtS (a b : Str) : Prop := a.cps.toList < b.cps.toList
theorem lt_of_nlt {a b : Str} (h : ¬ LtS b a) (ne : a ≠ b) : LtS a b := by
  have h1 : a.cps.toList ≤ b.cps.toList := List.not_lt.mp h
  rcases List.le_iff_lt_or_eq.mp h1 with z | z
  · exact z
  · exact absurd (ext_tl z) ne
theorem asc_rising : ∀ (p : Str) (l : List Str), risingS p l = true → (p :: l).Nodup → (p :: l).Pairwise LtS
  | p, [], _, _ => by simp
  | p, x :: r, h, n => by
    have h' : (!ltCps x.cps.toList p.cps.toList) = true ∧ risingS x r = true := by simpa [risingS] using h
    have n' := (List.nodup_cons.mp n).2
    have ih := asc_rising x r h'.2 n'
    have px : LtS p x := by
      refine lt_of_nlt (fun z => ?_) (fun z => (List.nodup_cons.mp n).1 (by rw [z]; exact List.mem_cons_self ..))
      have : ltCps x.cps.toList p.cps.toList = true := by rw [ltCps_eq]; exact decide_eq_true z
      rw [this] at h'
      exact absurd h'.1 (by decide)
    refine List.pairwise_cons.mpr ⟨fun y hy => ?_, ih⟩
    rcases List.mem_cons.mp hy with rfl | hy
    · exact px
    · exact List.lt_trans px ((List.pairwise_cons.mp ih).1 y hy)
theorem asc_sorted {l : List Str} (h : sortedS l = true) (n : l.Nodup) : l.Pairwise LtS := by
  cases l with
  | nil => exact List.Pairwise.nil
  | cons p l => exact asc_rising p l h n
theorem lts_irr {a : Str} : ¬ LtS a a := List.lt_irrefl _
theorem asc_eq : ∀ {l m : List Str}, l.Pairwise LtS → m.Pairwise LtS → (∀ x, x ∈ l ↔ x ∈ m) → l = m
  | [], [], _, _, _ => rfl
  | [], y :: m, _, _, h => absurd ((h y).mpr (List.mem_cons_self ..)) (List.not_mem_nil)
  | x :: l, [], _, _, h => absurd ((h x).mp (List.mem_cons_self ..)) (List.not_mem_nil)
  | x :: l, y :: m, a, b, h => by
    obtain ⟨a1, a2⟩ := List.pairwise_cons.mp a
    obtain ⟨b1, b2⟩ := List.pairwise_cons.mp b
    have exy : x = y := by
      rcases List.mem_cons.mp ((h x).mp (List.mem_cons_self ..)) with z | z
      · exact z
      · rcases List.mem_cons.mp ((h y).mpr (List.mem_cons_self ..)) with z' | z'
        · exact z'.symm
        · exact absurd (List.lt_trans (b1 x z) (a1 y z')) lts_irr
    subst exy
    rw [asc_eq (l := l) (m := m) a2 b2 fun z => ?_]
    constructor
    · intro hz
      rcases List.mem_cons.mp ((h z).mp (List.mem_cons_of_mem _ hz)) with e | e
      · rw [e] at hz
        exact absurd (a1 x hz) lts_irr
      · exact e
    · intro hz
      rcases List.mem_cons.mp ((h z).mpr (List.mem_cons_of_mem _ hz)) with e | e
      · rw [e] at hz
        exact absurd (b1 x hz) lts_irr
      · exact e
/-! things told by their texts -/
def okS (x : Str) : Bool := x.cps.toList.all fun c => decide (c ≠ 40 ∧ c ≠ 41 ∧ c ≠ 44)
mutual
def thW : PyData → Bool
  | .str x => okS x
  | .tuple (.str c :: d :: ds) => okS c && thW d && thWs ds
  | _ => false
def thWs : List PyData → Bool
  | [] => true
  | d :: ds => thW d && thWs ds
end
theorem thWs_iff {ds : List PyData} : thWs ds = true ↔ ∀ d ∈ ds, thW d = true := by
  induction ds with
  | nil => simp [thWs]
  | cons d ds ih => simp only [thWs, Bool.and_eq_true, ih, List.mem_cons, forall_eq_or_imp]
theorem thW_cases {d : PyData} (h : thW d = true) : (∃ c, d = .str c ∧ okS c = true) ∨ ∃ c ps, d = .tuple (.str c :: ps) ∧ ps ≠ [] ∧ okS c = true ∧ thWs ps = true := by
  cases d with
  | str c => exact .inl ⟨c, rfl, by simpa only [thW] using h⟩
  | tuple ds =>
    match ds, h with
    | .str c :: p :: ps, h =>
      have h' : (okS c = true ∧ thW p = true) ∧ thWs ps = true := by simpa [thW] using h
      exact .inr ⟨c, p :: ps, rfl, List.cons_ne_nil _ _, h'.1.1, by simp only [thWs, h'.1.2, h'.2]; rfl⟩
    | [], h => simp [thW] at h
    | [x], h => cases x <;> simp [thW] at h
    | .none :: _ :: _, h => simp [thW] at h
    | .bool _ :: _ :: _, h => simp [thW] at h
    | .int _ :: _ :: _, h => simp [thW] at h
    | .list _ :: _ :: _, h => simp [thW] at h
    | .tuple _ :: _ :: _, h => simp [thW] at h
    | .dict _ :: _ :: _, h => simp [thW] at h
  | none => simp [thW] at h
  | bool _ => simp [thW] at h
  | int _ => simp [thW] at h
  | list _ => simp [thW] at h
  | dict _ => simp [thW] at h
end Mine

set_option Elab.async false
set_option linter.all false
set_option maxRecDepth 100000
set_option maxHeartbeats 4000000
/-! Unlike things have unlike texts. -/
namespace Mine
open PySem PySem.Spec PyProof.Rows L2 TL
abbrev tx (d : PyData) : List Nat := tl (txt d)
theorem tx_node (c : Str) (ps : List PyData) : tx (.tuple (.str c :: ps)) = tl c ++ 40 :: (joinL [44] (ps.map tx) ++ [41]) := by
  have a : tl (PySem.Str.ofString "(") = [40] := by decide +kernel
  have b : tl (PySem.Str.ofString ")") = [41] := by decide +kernel
  have e : tl (PySem.Str.ofString ",") = [44] := by decide +kernel
  show tl (txt _) = _
  rw [txt_tup, tl_append, tl_append, tl_append, tl_join, a, b, e, List.map_map]
  simp [tx, Function.comp_def]
def brk (c : Nat) : Prop := c = 40 ∨ c = 41 ∨ c = 44
theorem okS_free {x : Str} (h : okS x = true) : ∀ c ∈ tl x, ¬ brk c := fun c hc => by
  have := List.all_eq_true.mp h c hc
  have := of_decide_eq_true this
  unfold brk
  omega
def AtBrk (r : List Nat) : Prop := ∀ c t, r = c :: t → brk c
theorem free_cut {a b : List Nat} : ∀ {r r' : List Nat}, (∀ c ∈ a, ¬ brk c) → (∀ c ∈ b, ¬ brk c) → AtBrk r → AtBrk r' → a ++ r = b ++ r' → a = b ∧ r = r' := by
  induction a generalizing b with
  | nil =>
    intro r r' ha hb hr hr' e
    cases b with
    | nil => exact ⟨rfl, e⟩
    | cons x b => exact absurd (hr x _ e) (hb x (List.mem_cons_self ..))
  | cons y a ih =>
    intro r r' ha hb hr hr' e
    cases b with
    | nil => exact absurd (hr' y _ e.symm) (ha y (List.mem_cons_self ..))
    | cons x b =>
      injection e with e1 e2
      obtain ⟨h1, h2⟩ := ih (fun c hc => ha c (List.mem_cons_of_mem _ hc)) (fun c hc => hb c (List.mem_cons_of_mem _ hc)) hr hr' e2
      exact ⟨by rw [e1, h1], h2⟩
/-- behind a thing: the end, a comma or a closing bracket -/
def Beh (r : List Nat) : Prop := ∀ c t, r = c :: t → c = 41 ∨ c = 44
theorem Beh.at_ {r : List Nat} (h : Beh r) : AtBrk r := fun c t e => .inr (h c t e)
theorem at40 (t : List Nat) : AtBrk (40 :: t) := fun c u e => by
  injection e with e1 _
  exact .inl e1.symm
theorem beh41 (t : List Nat) : Beh (41 :: t) := fun c u e => by
  injection e with e1 _
  exact .inl e1.symm
theorem beh44 (t : List Nat) : Beh (44 :: t) := fun c u e => by
  injection e with e1 _
  exact .inr e1.symm
mutual
theorem tx_cut : ∀ (d d' : PyData) (r r' : List Nat), thW d = true → thW d' = true → Beh r → Beh r' → tx d ++ r = tx d' ++ r' → d = d' ∧ r = r'
  | .str x, d', r, r', h, h', hr, hr', e => by
    have hx : okS x = true := by simpa only [thW] using h
    have ex : tx (.str x) = tl x := by show tl (txt _) = _; rw [txt_str]
    rw [ex] at e
    rcases thW_cases h' with ⟨y, rfl, hy⟩ | ⟨c, ps, rfl, _, hc, _⟩
    · have ey : tx (.str y) = tl y := by show tl (txt _) = _; rw [txt_str]
      rw [ey] at e
      obtain ⟨a, b⟩ := free_cut (okS_free hx) (okS_free hy) hr.at_ hr'.at_ e
      exact ⟨by rw [ext_tl a], b⟩
    · rw [tx_node, List.append_assoc] at e
      obtain ⟨_, b⟩ := free_cut (okS_free hx) (okS_free hc) hr.at_ (at40 _) e
      have := hr 40 _ b
      omega
  | .tuple (.str c :: p :: ps), d', r, r', h, h', hr, hr', e => by
    have h2 : (okS c = true ∧ thW p = true) ∧ thWs ps = true := by simpa [thW] using h
    have h3 : thWs (p :: ps) = true := by simp only [thWs, h2.1.2, h2.2]; rfl
    rw [tx_node, List.append_assoc] at e
    rcases thW_cases h' with ⟨y, rfl, hy⟩ | ⟨c', ps', rfl, ne, hc, hp⟩
    · have ey : tx (.str y) = tl y := by show tl (txt _) = _; rw [txt_str]
      rw [ey] at e
      obtain ⟨_, b⟩ := free_cut (okS_free h2.1.1) (okS_free hy) (at40 _) hr'.at_ e
      have := hr' 40 _ b.symm
      omega
    · rw [tx_node, List.append_assoc] at e
      obtain ⟨a, b⟩ := free_cut (okS_free h2.1.1) (okS_free hc) (at40 _) (at40 _) e
      have b2 : joinL [44] ((p :: ps).map tx) ++ [41] ++ r = joinL [44] (ps'.map tx) ++ [41] ++ r' := (List.cons.inj b).2
      rw [List.append_assoc, List.append_assoc] at b2
      cases ps' with
      | nil => exact absurd rfl ne
      | cons p' ps' =>
        obtain ⟨a2, b3⟩ := txs_cut (p :: ps) (p' :: ps') r r' (List.cons_ne_nil _ _) (List.cons_ne_nil _ _) h3 hp b2
        exact ⟨by rw [ext_tl a, a2], b3⟩
  | .none, _, _, _, h, _, _, _, _ => by simp [thW] at h
  | .bool _, _, _, _, h, _, _, _, _ => by simp [thW] at h
  | .int _, _, _, _, h, _, _, _, _ => by simp [thW] at h
  | .list _, _, _, _, h, _, _, _, _ => by simp [thW] at h
  | .dict _, _, _, _, h, _, _, _, _ => by simp [thW] at h
  | .tuple [], _, _, _, h, _, _, _, _ => by simp [thW] at h
  | .tuple [d], _, _, _, h, _, _, _, _ => by cases d <;> simp [thW] at h
  | .tuple (.none :: _ :: _), _, _, _, h, _, _, _, _ => by simp [thW] at h
  | .tuple (.bool _ :: _ :: _), _, _, _, h, _, _, _, _ => by simp [thW] at h
  | .tuple (.int _ :: _ :: _), _, _, _, h, _, _, _, _ => by simp [thW] at h
  | .tuple (.list _ :: _ :: _), _, _, _, h, _, _, _, _ => by simp [thW] at h
  | .tuple (.tuple _ :: _ :: _), _, _, _, h, _, _, _, _ => by simp [thW] at h
  | .tuple (.dict _ :: _ :: _), _, _, _, h, _, _, _, _ => by simp [thW] at h
theorem txs_cut : ∀ (ds ds' : List PyData) (r r' : List Nat), ds ≠ [] → ds' ≠ [] → thWs ds = true → thWs ds' = true →
    joinL [44] (ds.map tx) ++ 41 :: r = joinL [44] (ds'.map tx) ++ 41 :: r' → ds = ds' ∧ r = r'
  | [], _, _, _, z, _, _, _, _ => absurd rfl z
  | _ :: _, [], _, _, _, z, _, _, _ => absurd rfl z
  | [d], [d'], r, r', _, _, h, h', e => by
    have h1 : thW d = true := by simpa [thWs] using h
    have h2 : thW d' = true := by simpa [thWs] using h'
    obtain ⟨a, b⟩ := tx_cut d d' _ _ h1 h2 (beh41 _) (beh41 _) e
    exact ⟨by rw [a], (List.cons.inj b).2⟩
  | [d], d' :: e' :: ds', r, r', _, _, h, h', e => by
    have h1 : thW d = true := by simpa [thWs] using h
    have h2 : thW d' = true ∧ thWs (e' :: ds') = true := by simpa [thWs] using h'
    have e1 : tx d ++ 41 :: r = tx d' ++ 44 :: (joinL [44] ((e' :: ds').map tx) ++ 41 :: r') := by
      have : tx d ++ 41 :: r = tx d' ++ ([44] ++ joinL [44] ((e' :: ds').map tx)) ++ 41 :: r' := e
      rw [this, List.append_assoc]
      rfl
    obtain ⟨_, b⟩ := tx_cut d d' _ _ h1 h2.1 (beh41 _) (beh44 _) e1
    injection b with b1 _
    cases b1
  | d :: e' :: ds, [d'], r, r', _, _, h, h', e => by
    have h1 : thW d = true ∧ thWs (e' :: ds) = true := by simpa [thWs] using h
    have h2 : thW d' = true := by simpa [thWs] using h'
    have e1 : tx d ++ 44 :: (joinL [44] ((e' :: ds).map tx) ++ 41 :: r) = tx d' ++ 41 :: r' := by
      have : tx d ++ ([44] ++ joinL [44] ((e' :: ds).map tx)) ++ 41 :: r = tx d' ++ 41 :: r' := e
      rw [← this, List.append_assoc]
      rfl
    obtain ⟨_, b⟩ := tx_cut d d' _ _ h1.1 h2 (beh44 _) (beh41 _) e1
    injection b with b1 _
    cases b1
  | d :: e1 :: ds, d' :: e2 :: ds', r, r', _, _, h, h', e => by
    have h1 : thW d = true ∧ thWs (e1 :: ds) = true := by simpa [thWs] using h
    have h2 : thW d' = true ∧ thWs (e2 :: ds') = true := by simpa [thWs] using h'
    have e3 : tx d ++ 44 :: (joinL [44] ((e1 :: ds).map tx) ++ 41 :: r) = tx d' ++ 44 :: (joinL [44] ((e2 :: ds').map tx) ++ 41 :: r') := by
      have : tx d ++ ([44] ++ joinL [44] ((e1 :: ds).map tx)) ++ 41 :: r = tx d' ++ ([44] ++ joinL [44] ((e2 :: ds').map tx)) ++ 41 :: r' := e
      rw [List.append_assoc, List.append_assoc, List.append_assoc, List.append_assoc] at this
      exact this
    obtain ⟨a, b⟩ := tx_cut d d' _ _ h1.1 h2.1 (beh44 _) (beh44 _) e3
    obtain ⟨a2, b2⟩ := txs_cut (e1 :: ds) (e2 :: ds') r r' (List.cons_ne_nil _ _) (List.cons_ne_nil _ _) h1.2 h2.2 (List.cons.inj b).2
    exact ⟨by rw [a, a2], b2⟩
end
theorem txt_inj {d d' : PyData} (h : thW d = true) (h' : thW d' = true) (e : txt d = txt d') : d = d' :=
  (tx_cut d d' [] [] h h' (fun _ _ z => nomatch z) (fun _ _ z => nomatch z) (by rw [List.append_nil, List.append_nil]; exact congrArg tl e)).1
theorem thW_thing : ∀ (n : Nat) (d : PyData), sz d ≤ n → thW d = true → thing d = true
  | 0, d, hn, _ => by have := sz_pos d; omega
  | n + 1, d, hn, h => by
    rcases thW_cases h with ⟨c, rfl, _⟩ | ⟨c, ps, rfl, ne, _, hp⟩
    · simp [thing]
    · have kd : kids (.tuple (.str c :: ps)) = ps := rfl
      have small : ∀ p ∈ ps, thing p = true := fun p hp1 => by
        refine thW_thing n p ?_ (thWs_iff.mp hp p hp1)
        have : sz (.tuple (.str c :: ps)) = 1 + (ps.flatMap lot).length := by
          unfold sz
          rw [lot_eq, kd, List.length_cons]
          omega
        have := flat_ge hp1
        unfold sz at *
        omega
      cases ps with
      | nil => exact absurd rfl ne
      | cons p ps =>
        simp only [thing, Bool.and_eq_true]
        exact ⟨small p (List.mem_cons_self ..), thingAll_iff.mpr fun x hx => small x (List.mem_cons_of_mem _ hx)⟩
theorem thW_lot : ∀ (n : Nat) (d : PyData), sz d ≤ n → thW d = true → ∀ p ∈ lot d, thW p = true
  | 0, d, hn, _ => by have := sz_pos d; omega
  | n + 1, d, hn, h => by
    intro p hp
    rw [lot_eq] at hp
    rcases List.mem_cons.mp hp with rfl | hp
    · exact h
    · obtain ⟨q, hq, hp⟩ := List.mem_flatMap.mp hp
      have qs : sz q < sz d := by
        have := flat_ge hq
        unfold sz
        rw [lot_eq d, List.length_cons]
        omega
      refine thW_lot n q (by omega) ?_ p hp
      rcases thW_cases h with ⟨c, rfl, _⟩ | ⟨c, ps, rfl, _, _, hps⟩
      · exact (List.not_mem_nil hq).elim
      · exact thWs_iff.mp hps q hq
end Mine

set_option Elab.async false
set_option linter.all false
set_option maxRecDepth 100000
set_option maxHeartbeats 4000000
/-! Sizes of texts of pieces; things put in the places of names. -/
namespace Mine
open PySem PySem.Spec PyProof.Rows L2 TL
theorem kid_len {d p : PyData} (h : thing d = true) (hp : p ∈ kids d) : (txt p).length ≤ (txt d).length := by
  rcases thing_cases h with ⟨c, rfl⟩ | ⟨c, ps, rfl, _, _⟩
  · exact (List.not_mem_nil hp).elim
  · have hp' : p ∈ ps := hp
    rw [txt_tup, strLen_append, strLen_append, strLen_append]
    have e1 : ∀ z : Str, (tl z).length = z.length := fun z => by simp [tl, Str.length]
    have : (txt p).length ≤ (Str.join (PySem.Str.ofString ",") (ps.map txt)).length := by
      rw [← e1, ← e1, tl_join]
      have go : ∀ {S : List Nat} {l : List (List Nat)} {x : List Nat}, x ∈ l → x.length ≤ (joinL S l).length := fun {S l x} => by
        induction l with
        | nil => intro h; exact (List.not_mem_nil h).elim
        | cons y l ih =>
          intro hx
          cases l with
          | nil =>
            rw [List.mem_singleton.mp hx]
            exact Nat.le_refl _
          | cons z l =>
            show x.length ≤ (y ++ (S ++ joinL S (z :: l))).length
            rw [List.length_append, List.length_append]
            rcases List.mem_cons.mp hx with rfl | hx
            · omega
            · have := ih hx
              omega
      exact go (List.mem_map.mpr ⟨txt p, List.mem_map.mpr ⟨p, hp', rfl⟩, rfl⟩)
    omega
theorem lot_len : ∀ (n : Nat) (d : PyData), sz d ≤ n → thing d = true → ∀ p ∈ lot d, (txt p).length ≤ (txt d).length
  | 0, d, hn, _ => by have := sz_pos d; omega
  | n + 1, d, hn, h => by
    intro p hp
    rw [lot_eq] at hp
    rcases List.mem_cons.mp hp with rfl | hp
    · exact Nat.le_refl _
    · obtain ⟨q, hq, hp⟩ := List.mem_flatMap.mp hp
      have qs : sz q < sz d := by
        have := flat_ge hq
        unfold sz
        rw [lot_eq d, List.length_cons]
        omega
      exact Nat.le_trans (lot_len n q (by omega) (thing_kids h hq) p hp) (kid_len h hq)
mutual
/-- other things in the places of words and names -/
def put (f : Str → PyData) : PyData → PyData
  | .str x => f x
  | .tuple (.str c :: ds) => .tuple (.str c :: puts f ds)
  | d => d
def puts (f : Str → PyData) : List PyData → List PyData
  | [] => []
  | d :: ds => put f d :: puts f ds
end
theorem puts_eq (f : Str → PyData) (ds : List PyData) : puts f ds = ds.map (put f) := by
  induction ds with
  | nil => simp [puts]
  | cons d ds ih => simp [puts, ih]
theorem put_str (f : Str → PyData) (x : Str) : put f (.str x) = f x := by simp only [put]
theorem put_tup (f : Str → PyData) (c : Str) (ps : List PyData) : put f (.tuple (.str c :: ps)) = .tuple (.str c :: ps.map (put f)) := by
  rw [← puts_eq]
  simp only [put]
theorem thing_tup {c : Str} {ps : List PyData} (ne : ps ≠ []) (h : ∀ p ∈ ps, thing p = true) : thing (.tuple (.str c :: ps)) = true := by
  cases ps with
  | nil => exact absurd rfl ne
  | cons p ps =>
    simp only [thing, Bool.and_eq_true]
    exact ⟨h p (List.mem_cons_self ..), thingAll_iff.mpr fun x hx => h x (List.mem_cons_of_mem _ hx)⟩
theorem put_thing {f : Str → PyData} (hf : ∀ x, thing (f x) = true) : ∀ (n : Nat) (d : PyData), sz d ≤ n → thing d = true → thing (put f d) = true
  | 0, d, hn, _ => by have := sz_pos d; omega
  | n + 1, d, hn, h => by
    rcases thing_cases h with ⟨c, rfl⟩ | ⟨c, ps, rfl, ne, hp⟩
    · rw [put_str]
      exact hf c
    · rw [put_tup]
      refine thing_tup (by simpa using ne) fun q hq => ?_
      obtain ⟨p, hp1, rfl⟩ := List.mem_map.mp hq
      refine put_thing hf n p ?_ (hp p hp1)
      have e : sz (.tuple (.str c :: ps)) = 1 + (ps.flatMap lot).length := by
        unfold sz
        rw [lot_eq, List.length_cons]
        show (ps.flatMap lot).length + 1 = _
        omega
      have := flat_ge hp1
      unfold sz at *
      omega
end Mine

set_option Elab.async false
set_option linter.all false
set_option maxRecDepth 100000
set_option maxHeartbeats 4000000
/-! Items of a book, their texts' sizes, that drawn books are right, and the text of a book as lines of words. -/
namespace K12
open PySem PySem.Spec PyProof.Rows L2 Mine TL
structure SA (s l k : Nat) (ds : List PyData) : Prop where
  ok : PyData.showableAll ds = true
  len : ((PyData.shownAll ds).map (·.length)).sum ≤ s
  num : (PyData.shownAll ds).length = k
  dep : PyData.depthAll ds ≤ l
theorem SA.nil {l : Nat} : SA 0 l 0 [] := ⟨by simp [PyData.showableAll], by simp [PyData.shownAll], by simp [PyData.shownAll], by simp [PyData.depthAll]⟩
theorem SA.snoc {s n l k : Nat} {d : PyData} (h : Shows n l d) {ds : List PyData} (a : SA s l k ds) : SA (s + n) l (k + 1) (ds ++ [d]) := by
  have ap1 : ∀ xs : List PyData, PyData.showableAll (xs ++ [d]) = (PyData.showableAll xs && d.showable) := fun xs => by
    induction xs with
    | nil => simp [PyData.showableAll]
    | cons x r ih => simp [PyData.showableAll, ih, Bool.and_assoc]
  have ap2 : ∀ xs : List PyData, PyData.shownAll (xs ++ [d]) = PyData.shownAll xs ++ [d.shown] := fun xs => by
    induction xs with
    | nil => simp [PyData.shownAll]
    | cons x r ih => simp [PyData.shownAll, ih]
  have ap3 : ∀ xs : List PyData, PyData.depthAll (xs ++ [d]) = max (PyData.depthAll xs) d.depth := fun xs => by
    induction xs with
    | nil => simp [PyData.depthAll]
    | cons x r ih =>
      simp only [List.cons_append, PyData.depthAll, ih]
      omega
  refine ⟨by rw [ap1, a.ok, h.ok]; rfl, ?_, ?_, ?_⟩
  · rw [ap2, List.map_append, List.sum_append]
    have := h.len
    have := a.len
    simp only [List.map_cons, List.map_nil, List.sum_cons, List.sum_nil]
    omega
  · rw [ap2, List.length_append]
    have := a.num
    simp only [List.length_cons, List.length_nil]
    omega
  · rw [ap3]
    have := h.dep
    have := a.dep
    omega
theorem SA.cons {s n l k : Nat} {d : PyData} (h : Shows n l d) {ds : List PyData} (a : SA s l k ds) : SA (s + n) l (k + 1) (d :: ds) := by
  have h1 := h.len
  have h2 := h.dep
  have a1 := a.len
  have a2 := a.dep
  have a3 := a.num
  refine ⟨?_, ?_, ?_, ?_⟩
  · simp only [PyData.showableAll, h.ok, a.ok]
    rfl
  · simp only [PyData.shownAll, List.map_cons, List.sum_cons]
    omega
  · simp only [PyData.shownAll, List.length_cons]
    omega
  · simp only [PyData.depthAll]
    omega
theorem SA.tuple {s l k : Nat} {ds : List PyData} (a : SA s l k ds) : Shows (s + 2 * k + 3) (l + 1) (.tuple ds) := by
  have h1 := tupleText_len_le (PyData.shownAll ds)
  have h3 := a.len
  have h4 := a.num
  have h5 := a.dep
  exact ⟨by simpa only [PyData.showable] using a.ok, by simp only [PyData.shown]; omega, by simp only [PyData.depth]; omega⟩
theorem SA.list {s l k : Nat} {ds : List PyData} (a : SA s l k ds) : Shows (s + 2 * k + 3) (l + 1) (.list ds) := by
  have h1 := listText_len_le (PyData.shownAll ds)
  have h3 := a.len
  have h4 := a.num
  have h5 := a.dep
  exact ⟨by simpa only [PyData.showable] using a.ok, by simp only [PyData.shown]; omega, by simp only [PyData.depth]; omega⟩
theorem w8_shows : ∀ x ∈ W8, (PyData.shown (.str x)).length ≤ 10 := by decide +kernel
theorem w8_str {x : Str} (h : x ∈ W8) : Shows 10 0 (.str x) := ⟨by simp [PyData.showable], w8_shows x h, by simp [PyData.depth]⟩
def ItemAt (H : Hp) (a : Addr) (o : Opn) : Prop := ∃ (b : Addr) (bs : List Addr), H a = some (.tup [.str o.w, .str o.k, .int o.g, .ref b]) ∧ H b = some (.tup (bs.map V.ref)) ∧ Paired (fun x n => H x = some (.tup (ndV n))) bs o.nn
theorem ItemAt.mono {H H' : Hp} {a : Addr} {o : Opn} (k : ∀ b xs, H b = some (.tup xs) → H' b = some (.tup xs)) (h : ItemAt H a o) : ItemAt H' a o :=
  let ⟨b, bs, h1, h2, h3⟩ := h
  ⟨b, bs, k _ _ h1, k _ _ h2, paired_mono (fun _ _ => k _ _) h3⟩
theorem ItemAt.opn {K : PySem.W.Frag} {H : Hp} {a : Addr} {o : Opn} (h : ItemAt H a o) : OpnAt K H a o :=
  let ⟨b, bs, h1, h2, h3⟩ := h
  ⟨b, bs, SqT.of h1, SqT.of h2, paired_mono (fun _ _ => SqT.of) h3⟩
theorem ks_paired {H : Hp} : ∀ {ms : List V} {ks : List (Str × Int)}, DKs H ms (ks.map kD) → ∃ ps : List Addr, ms = ps.map V.ref ∧ Paired (fun a p => H a = some (.tup [.str p.1, .int p.2])) ps ks
  | _, [], h => by cases h; exact ⟨[], rfl, .nil⟩
  | _, p :: ks, h => by
    cases h with
    | cons h1 h2 =>
      obtain ⟨a, rfl, e⟩ := kd_of h1
      obtain ⟨ps, rfl, r⟩ := ks_paired h2
      exact ⟨a :: ps, rfl, .cons e r⟩
theorem w8_nodup : W8.Nodup := by decide +kernel
def opD (o : Opn) : PyData := .tuple [.str o.w, .str o.k, .int o.g, .tuple (o.nn.map ndD)]
theorem nd_dk {H : Hp} {x : Addr} {n : Nd} (h : H x = some (.tup (ndV n))) : DK H (.ref x) (ndD n) := by
  cases n with
  | part j => exact .tup h (.cons (.str _) (.cons (.int _) .nil))
  | around c j => exact .tup h (.cons (.str _) (.cons (.str _) (.cons (.int _) .nil)))
  | inside j c => exact .tup h (.cons (.str _) (.cons (.int _) (.cons (.str _) .nil)))
theorem nds_dk {H : Hp} : ∀ {bs : List Addr} {nn : List Nd}, Paired (fun x n => H x = some (.tup (ndV n))) bs nn → DKs H (bs.map V.ref) (nn.map ndD)
  | _, _, .nil => .nil
  | _, _, .cons h r => .cons (nd_dk h) (nds_dk r)
theorem item_dk {H : Hp} {a : Addr} {o : Opn} (h : ItemAt H a o) : DK H (.ref a) (opD o) :=
  let ⟨_, _, h1, h2, h3⟩ := h
  .tup h1 (.cons (.str _) (.cons (.str _) (.cons (.int _) (.cons (.tup h2 (nds_dk h3)) .nil))))
theorem items_dk {H : Hp} : ∀ {as : List Addr} {os : List Opn}, Paired (ItemAt H) as os → DKs H (as.map V.ref) (os.map opD)
  | _, _, .nil => .nil
  | _, _, .cons h r => .cons (item_dk h) (items_dk r)
theorem sa_all {n l : Nat} : ∀ ds : List PyData, (∀ d ∈ ds, Shows n l d) → SA (n * ds.length) l ds.length ds
  | [], _ => SA.nil
  | d :: ds, h => by
    have := SA.cons (h d (List.mem_cons_self ..)) (sa_all ds fun x hx => h x (List.mem_cons_of_mem _ hx))
    rw [List.length_cons, Nat.mul_succ]
    exact this
theorem int_show {j : Int} (h0 : 0 ≤ j) (h1 : j < 4) : Shows 1 0 (.int j) := by
  have : j = 0 ∨ j = 1 ∨ j = 2 ∨ j = 3 := by omega
  rcases this with rfl | rfl | rfl | rfl <;> exact ⟨by decide +kernel, by decide +kernel, by decide +kernel⟩
theorem ww_shows : ∀ x ∈ WW, (PyData.shown (.str x)).length ≤ 10 := by decide +kernel
theorem ww_str {x : Str} (h : x ∈ WW) : Shows 10 0 (.str x) := ⟨by simp [PyData.showable], ww_shows x h, by simp [PyData.depth]⟩
theorem lit_str {x : Str} (h : (PyData.shown (.str x)).length ≤ 10 := by decide +kernel) : Shows 10 0 (.str x) := ⟨by simp [PyData.showable], h, by simp [PyData.depth]⟩
theorem w8_ww : ∀ x ∈ W8, x ∈ WW := by decide +kernel
theorem nd_show {m : Int} {ks : List (Str × Int)} {n : Nd} (h : NdOk m ks n) (h3 : m ≤ 3) (kw : ∀ p ∈ ks, p.1 ∈ WW) : Shows 40 1 (ndD n) := by
  cases n with
  | part j =>
    obtain ⟨j0, j1⟩ := h
    exact (SA.cons lit_str (SA.cons (int_show j0 (by omega)) SA.nil)).tuple.up (by decide) (Nat.le_refl _)
  | around c j =>
    obtain ⟨c1, j0, j1⟩ := h
    exact (SA.cons lit_str (SA.cons (ww_str (kw _ c1)) (SA.cons (int_show j0 (by omega)) SA.nil))).tuple.up (by decide) (Nat.le_refl _)
  | inside j c =>
    obtain ⟨c1, j0, j1⟩ := h
    exact (SA.cons lit_str (SA.cons (int_show j0 (by omega)) (SA.cons (ww_str (kw _ c1)) SA.nil))).tuple.up (by decide) (Nat.le_refl _)
theorem op_show {ks : List (Str × Int)} {o : Opn} (h : OpnOk ks o) (kw : ∀ p ∈ ks, p.1 ∈ WW) (kn : ∀ p ∈ ks, p.2 ≤ 3) : Shows 150 3 (opD o) := by
  obtain ⟨m, hm, g0, g1, nl, hn⟩ := h.ex
  have m3 : m ≤ 3 := kn _ hm
  have s1 : Shows 87 2 (.tuple (o.nn.map ndD)) := by
    have := (sa_all (n := 40) (l := 1) (o.nn.map ndD) fun d hd => by
      obtain ⟨n, hn1, rfl⟩ := List.mem_map.mp hd
      exact nd_show (hn n hn1) m3 kw).tuple
    rw [List.length_map] at this
    exact this.up (by omega) (by omega)
  exact (SA.cons ((ww_str h.ww).up (Nat.le_refl _) (Nat.zero_le 2)) (SA.cons ((ww_str (kw _ hm)).up (Nat.le_refl _) (Nat.zero_le 2)) (SA.cons ((int_show g0 (by omega)).up (Nat.le_refl _) (Nat.zero_le 2)) (SA.cons s1 SA.nil)))).tuple.up (by decide) (Nat.le_refl _)
theorem os_show {ks : List (Str × Int)} {os : List Opn} (h : ∀ o ∈ os, OpnOk ks o) (kw : ∀ p ∈ ks, p.1 ∈ WW) (kn : ∀ p ∈ ks, p.2 ≤ 3) (hl : os.length ≤ 20) : Shows 3100 4 (.tuple (os.map opD)) := by
  have := (sa_all (n := 150) (l := 3) (os.map opD) fun d hd => by
    obtain ⟨o, ho, rfl⟩ := List.mem_map.mp hd
    exact op_show (h o ho) kw kn).tuple
  rw [List.length_map] at this
  exact this.up (by omega) (by omega)
theorem ks_show {ks : List (Str × Int)} (kw : ∀ p ∈ ks, p.1 ∈ WW) (kn : ∀ p ∈ ks, 1 ≤ p.2 ∧ p.2 ≤ 3) (hl : ks.length ≤ 20) : Shows 500 2 (.tuple (ks.map kD)) := by
  have := (sa_all (n := 20) (l := 1) (ks.map kD) fun d hd => by
    obtain ⟨p, hp, rfl⟩ := List.mem_map.mp hd
    have := kn p hp
    exact (SA.cons (ww_str (kw p hp)) (SA.cons (int_show (j := p.2) (by omega) (by omega)) SA.nil)).tuple.up (by decide) (Nat.le_refl _)).tuple
  rw [List.length_map] at this
  exact this.up (by omega) (by omega)
theorem nd_of {m : Int} {ks : List (Str × Int)} {d : PyData} (h : NeedOk m (singles ks) d) : ∃ n, d = ndD n ∧ NdOk m ks n := by
  rcases h with ⟨j, j0, j1, rfl⟩ | ⟨c, j, hc, j0, j1, rfl⟩ | ⟨c, j, hc, j0, j1, rfl⟩
  · exact ⟨.part j, rfl, j0, j1⟩
  · exact ⟨.around c j, rfl, singles_mem hc, j0, j1⟩
  · exact ⟨.inside j c, rfl, singles_mem hc, j0, j1⟩
theorem nds_of {m : Int} {ks : List (Str × Int)} : ∀ {l : List PyData}, (∀ d ∈ l, NeedOk m (singles ks) d) → ∃ nn : List Nd, l = nn.map ndD ∧ ∀ n ∈ nn, NdOk m ks n
  | [], _ => ⟨[], rfl, fun _ z => (List.not_mem_nil z).elim⟩
  | d :: l, h => by
    obtain ⟨n, rfl, hn⟩ := nd_of (h d (List.mem_cons_self ..))
    obtain ⟨nn, rfl, hnn⟩ := nds_of (l := l) fun x hx => h x (List.mem_cons_of_mem _ hx)
    exact ⟨n :: nn, rfl, fun x hx => by
      rcases List.mem_cons.mp hx with rfl | hx
      · exact hn
      · exact hnn x hx⟩
theorem w6_ww : ∀ x ∈ W6, x ∈ WW := by decide +kernel
theorem w6_out : ∀ x ∈ W6, x ∉ W8 := by decide +kernel
theorem ops_of {ks : List (Str × Int)} (sub : (ks.map (·.1)).Sublist W8) : ∀ {os : List Op}, (∀ o ∈ os, OpOk ks o) → (∀ o ∈ os, o.w ∈ W6) → ∃ os' : List Opn, os.map oD = os'.map opD ∧ os'.map (·.w) = os.map (·.w) ∧ ∀ o ∈ os', OpnOk ks o
  | [], _, _ => ⟨[], rfl, rfl, fun _ z => (List.not_mem_nil z).elim⟩
  | o :: os, h, hw => by
    obtain ⟨os', e1, e2, h'⟩ := ops_of sub (os := os) (fun x hx => h x (List.mem_cons_of_mem _ hx)) fun x hx => hw x (List.mem_cons_of_mem _ hx)
    obtain ⟨m, hm, g0, g1, nl, hn⟩ := (h o (List.mem_cons_self ..)).ex
    obtain ⟨nn, en, hnn⟩ := nds_of hn
    have w6 := hw o (List.mem_cons_self ..)
    refine ⟨⟨o.w, o.k, o.g, nn⟩ :: os', ?_, ?_, fun x hx => ?_⟩
    · rw [List.map_cons, List.map_cons, e1]
      show oD o :: _ = opD ⟨o.w, o.k, o.g, nn⟩ :: _
      unfold oD opD
      rw [en]
    · rw [List.map_cons, List.map_cons, e2]
    · rcases List.mem_cons.mp hx with rfl | hx
      · exact ⟨w6_ww _ w6, fun z => w6_out _ w6 (sub.subset z), m, hm, g0, g1, by rw [en, List.length_map] at nl; exact nl, hnn⟩
      · exact h' x hx
theorem nd_at {H : Hp} {v : V} {n : Nd} (h : DK H v (ndD n)) : ∃ a, v = .ref a ∧ H a = some (.tup (ndV n)) := by
  cases n with
  | part j =>
    cases h with
    | tup e r =>
      cases r with
      | cons h1 r =>
        cases h1
        cases r with
        | cons h2 r =>
          cases h2
          cases r
          exact ⟨_, rfl, e⟩
  | around c j =>
    cases h with
    | tup e r =>
      cases r with
      | cons h1 r =>
        cases h1
        cases r with
        | cons h2 r =>
          cases h2
          cases r with
          | cons h3 r =>
            cases h3
            cases r
            exact ⟨_, rfl, e⟩
  | inside j c =>
    cases h with
    | tup e r =>
      cases r with
      | cons h1 r =>
        cases h1
        cases r with
        | cons h2 r =>
          cases h2
          cases r with
          | cons h3 r =>
            cases h3
            cases r
            exact ⟨_, rfl, e⟩
theorem nds_at {H : Hp} : ∀ {vs : List V} {nn : List Nd}, DKs H vs (nn.map ndD) → ∃ bs : List Addr, vs = bs.map V.ref ∧ Paired (fun x n => H x = some (.tup (ndV n))) bs nn
  | _, [], h => by cases h; exact ⟨[], rfl, .nil⟩
  | _, n :: nn, h => by
    cases h with
    | cons h1 h2 =>
      obtain ⟨a, rfl, e⟩ := nd_at h1
      obtain ⟨bs, rfl, r⟩ := nds_at h2
      exact ⟨a :: bs, rfl, .cons e r⟩
theorem item_at {H : Hp} {v : V} {o : Opn} (h : DK H v (opD o)) : ∃ a, v = .ref a ∧ ItemAt H a o := by
  cases h with
  | tup e r =>
    cases r with
    | cons h1 r =>
      cases h1
      cases r with
      | cons h2 r =>
        cases h2
        cases r with
        | cons h3 r =>
          cases h3
          cases r with
          | cons h4 r =>
            cases r
            cases h4 with
            | tup e4 r4 =>
              obtain ⟨bs, rfl, p⟩ := nds_at r4
              exact ⟨_, rfl, _, bs, e, e4, p⟩
theorem items_at {H : Hp} : ∀ {vs : List V} {os : List Opn}, DKs H vs (os.map opD) → ∃ as : List Addr, vs = as.map V.ref ∧ Paired (ItemAt H) as os
  | _, [], h => by cases h; exact ⟨[], rfl, .nil⟩
  | _, o :: os, h => by
    cases h with
    | cons h1 h2 =>
      obtain ⟨a, rfl, e⟩ := item_at h1
      obtain ⟨as, rfl, r⟩ := items_at h2
      exact ⟨a :: as, rfl, .cons e r⟩
def Lt (a b : Str) : Prop := a.cps.toList < b.cps.toList
instance : DecidableRel Lt := fun a b => inferInstanceAs (Decidable (a.cps.toList < b.cps.toList))
theorem asc_of {l : List Str} (h : l.Pairwise Lt) : Asc l := by
  intro i a b ha hb
  obtain ⟨h1, e1⟩ := List.getElem?_eq_some_iff.mp ha
  obtain ⟨h2, e2⟩ := List.getElem?_eq_some_iff.mp hb
  have := List.pairwise_iff_getElem.mp h i (i + 1) h1 h2 (Nat.lt_succ_self i)
  rw [e1, e2] at this
  exact this
theorem w8_lt : W8.Pairwise Lt := by decide +kernel
theorem w6_lt : W6.Pairwise Lt := by decide +kernel
theorem w6_nodup : W6.Nodup := by decide +kernel
theorem ks_ok {ks : List (Str × Int)} {os : List Op} (h : KitOk ks os) : KsOk ks := by
  refine ⟨h.ne, fun p hp => w8_ww _ (h.sub.subset (List.mem_map_of_mem hp)), h.num, asc_of (w8_lt.sublist h.sub), h.sub.nodup w8_nodup, ?_⟩
  have := h.sub.length_le
  rw [List.length_map] at this
  have e : W8.length = 8 := rfl
  omega
theorem os_len {ks : List (Str × Int)} {os : List Op} (h : KitOk ks os) : os.length ≤ 6 := by
  have := h.osub.length_le
  rw [List.length_map] at this
  exact this
def sk (s : String) (n : Int) : Str × Int := (PySem.Str.ofString s, n)
def stdKs : List (Str × Int) := [(PySem.Str.ofString "half", 1), (PySem.Str.ofString "lock", 2), (PySem.Str.ofString "mark", 1), (PySem.Str.ofString "pair", 2), (PySem.Str.ofString "seal", 2), (PySem.Str.ofString "sign", 2)]
def stdOs : List Opn := [⟨PySem.Str.ofString "first", PySem.Str.ofString "pair", 0, []⟩, ⟨PySem.Str.ofString "open", PySem.Str.ofString "lock", 0, [.part 1]⟩, ⟨PySem.Str.ofString "second", PySem.Str.ofString "pair", 1, []⟩, ⟨PySem.Str.ofString "shown", PySem.Str.ofString "sign", 0, []⟩,
  ⟨PySem.Str.ofString "signed", PySem.Str.ofString "sign", 0, [.around (PySem.Str.ofString "half") 1]⟩, ⟨PySem.Str.ofString "unseal", PySem.Str.ofString "seal", 0, [.inside 1 (PySem.Str.ofString "half")]⟩]
theorem std_ks : KsOk stdKs := ⟨by decide +kernel, by decide +kernel, by decide +kernel, asc_of (by decide +kernel), by decide +kernel, by decide +kernel⟩
theorem std_str : ∀ p ∈ stdKs, PyData.strOk p.1 = true := by decide +kernel
theorem std_os : OsOk stdKs stdOs := by
  refine ⟨fun o ho => ?_, asc_of (by decide +kernel), by decide +kernel⟩
  simp only [stdOs, List.mem_cons, List.not_mem_nil, or_false] at ho
  have no : ∀ {m : Int}, ∀ n ∈ ([] : List Nd), NdOk m stdKs n := fun _ z => (List.not_mem_nil z).elim
  have one : ∀ {m : Int} {n0 : Nd}, NdOk m stdKs n0 → ∀ n ∈ [n0], NdOk m stdKs n := fun h n hn => by
    rw [List.mem_singleton.mp hn]
    exact h
  rcases ho with rfl | rfl | rfl | rfl | rfl | rfl
  · exact ⟨by decide +kernel, by decide +kernel, 2, by decide +kernel, by decide, by decide, by decide, no⟩
  · exact ⟨by decide +kernel, by decide +kernel, 2, by decide +kernel, by decide, by decide, by decide, one ⟨by decide, by decide⟩⟩
  · exact ⟨by decide +kernel, by decide +kernel, 2, by decide +kernel, by decide, by decide, by decide, no⟩
  · exact ⟨by decide +kernel, by decide +kernel, 2, by decide +kernel, by decide, by decide, by decide, no⟩
  · exact ⟨by decide +kernel, by decide +kernel, 2, by decide +kernel, by decide, by decide, by decide, one ⟨by decide +kernel, by decide, by decide⟩⟩
  · exact ⟨by decide +kernel, by decide +kernel, 2, by decide +kernel, by decide, by decide, by decide, one ⟨by decide +kernel, by decide, by decide⟩⟩
/-- the constants of the standard book as the top has left them -/
def spS : Str := PySem.Str.ofString " "
def nlS : Str := PySem.Str.ofString "\n"
def num (i : Int) : Str := PySem.Str.ofString (toString i)
def kindW (p : Str × Int) : List Str := [PySem.Str.ofString "kind", p.1, num p.2]
def ndW : Nd → List Str
  | .part j => [PySem.Str.ofString "part", num j]
  | .around c j => [PySem.Str.ofString "around", c, num j]
  | .inside j c => [PySem.Str.ofString "inside", num j, c]
def opW (o : Opn) : List Str := [PySem.Str.ofString "opening", o.w, o.k, num o.g] ++ o.nn.flatMap ndW
def lineOf (ws : List Str) : Str := Txt.join spS ws
def pageL (ks : List (Str × Int)) (os : List Opn) : List Str := ks.map (fun p => lineOf (kindW p)) ++ os.map fun o => lineOf (opW o)
def page (ks : List (Str × Int)) (os : List Opn) : Str := Txt.join nlS (pageL ks os)
/-- a word that may stand in a line -/
structure Wd (x : Str) : Prop where
  sp : 32 ∉ tl x
  nl : 10 ∉ tl x
theorem ww_wd : ∀ x ∈ WW, 32 ∉ tl x ∧ 10 ∉ tl x := by decide +kernel
theorem wd_ww {x : Str} (h : x ∈ WW) : Wd x := ⟨(ww_wd x h).1, (ww_wd x h).2⟩
theorem wd_lit {x : Str} (h : 32 ∉ tl x := by decide +kernel) (h2 : 10 ∉ tl x := by decide +kernel) : Wd x := ⟨h, h2⟩
theorem wd_num {j : Int} (h0 : 0 ≤ j) (h1 : j < 4) : Wd (num j) := by
  have : j = 0 ∨ j = 1 ∨ j = 2 ∨ j = 3 := by omega
  rcases this with rfl | rfl | rfl | rfl <;> exact wd_lit
theorem num_inj {i j : Int} (i0 : 0 ≤ i) (i1 : i < 4) (j0 : 0 ≤ j) (j1 : j < 4) (h : num i = num j) : i = j := by
  have a : i = 0 ∨ i = 1 ∨ i = 2 ∨ i = 3 := by omega
  have b : j = 0 ∨ j = 1 ∨ j = 2 ∨ j = 3 := by omega
  rcases a with rfl | rfl | rfl | rfl <;> rcases b with rfl | rfl | rfl | rfl <;> first | rfl | exact absurd h (by decide +kernel)
theorem split_line {ws : List Str} (hne : ws ≠ []) (h : ∀ x ∈ ws, Wd x) : Txt.split (lineOf ws) spS = ws :=
  split_join (s := 32) (S := []) (by decide +kernel) (by decide +kernel) hne fun p hp => (h p hp).sp
theorem joinL_free {s : Nat} {S : List Nat} (hS : s ∉ S) : ∀ {ps : List (List Nat)}, (∀ p ∈ ps, s ∉ p) → s ∉ joinL S ps
  | [], _ => by simp [joinL]
  | [p], h => h p (List.mem_cons_self ..)
  | p :: q :: r, h => by
    show s ∉ p ++ (S ++ joinL S (q :: r))
    intro z
    rcases List.mem_append.mp z with z | z
    · exact h p (List.mem_cons_self ..) z
    · rcases List.mem_append.mp z with z | z
      · exact hS z
      · exact joinL_free hS (fun x hx => h x (List.mem_cons_of_mem _ hx)) z
theorem line_nl {ws : List Str} (h : ∀ x ∈ ws, Wd x) : 10 ∉ tl (lineOf ws) := by
  unfold lineOf
  rw [join_eq, tl_join]
  refine joinL_free (by decide +kernel) fun p hp => ?_
  obtain ⟨x, hx, rfl⟩ := List.mem_map.mp hp
  exact (h x hx).nl
theorem split_page {ls : List Str} (hne : ls ≠ []) (h : ∀ l ∈ ls, 10 ∉ tl l) : Txt.split (Txt.join nlS ls) nlS = ls :=
  split_join (s := 10) (S := []) (by decide +kernel) (by decide +kernel) hne h
theorem kindW_wd {ks : List (Str × Int)} (h : KsOk ks) {p : Str × Int} (hp : p ∈ ks) : ∀ x ∈ kindW p, Wd x := by
  have n := h.num p hp
  intro x hx
  simp only [kindW, List.mem_cons, List.not_mem_nil, or_false] at hx
  rcases hx with rfl | rfl | rfl
  · exact wd_lit
  · exact wd_ww (h.ww p hp)
  · exact wd_num (by omega) (by omega)
theorem ndW_wd {m : Int} {ks : List (Str × Int)} {n : Nd} (h : NdOk m ks n) (h3 : m ≤ 3) (kw : ∀ p ∈ ks, p.1 ∈ WW) : ∀ x ∈ ndW n, Wd x := by
  intro x hx
  cases n with
  | part j =>
    obtain ⟨j0, j1⟩ := h
    simp only [ndW, List.mem_cons, List.not_mem_nil, or_false] at hx
    rcases hx with rfl | rfl
    · exact wd_lit
    · exact wd_num j0 (by omega)
  | around c j =>
    obtain ⟨c1, j0, j1⟩ := h
    simp only [ndW, List.mem_cons, List.not_mem_nil, or_false] at hx
    rcases hx with rfl | rfl | rfl
    · exact wd_lit
    · exact wd_ww (kw _ c1)
    · exact wd_num j0 (by omega)
  | inside j c =>
    obtain ⟨c1, j0, j1⟩ := h
    simp only [ndW, List.mem_cons, List.not_mem_nil, or_false] at hx
    rcases hx with rfl | rfl | rfl
    · exact wd_lit
    · exact wd_num j0 (by omega)
    · exact wd_ww (kw _ c1)
theorem opW_wd {ks : List (Str × Int)} (hk : KsOk ks) {o : Opn} (h : OpnOk ks o) : ∀ x ∈ opW o, Wd x := by
  obtain ⟨m, hm, g0, g1, nl, hn⟩ := h.ex
  have m3 : m ≤ 3 := (hk.num _ hm).2
  intro x hx
  rcases List.mem_append.mp hx with hx | hx
  · simp only [List.mem_cons, List.not_mem_nil, or_false] at hx
    rcases hx with rfl | rfl | rfl | rfl
    · exact wd_lit
    · exact wd_ww h.ww
    · exact wd_ww (hk.ww _ hm)
    · exact wd_num g0 (by omega)
  · obtain ⟨n, hn1, hn2⟩ := List.mem_flatMap.mp hx
    exact ndW_wd (hn n hn1) m3 hk.ww x hn2
theorem pageL_nl {ks : List (Str × Int)} {os : List Opn} (hk : KsOk ks) (ho : OsOk ks os) : ∀ l ∈ pageL ks os, 10 ∉ tl l := by
  intro l hl
  rcases List.mem_append.mp hl with hl | hl
  · obtain ⟨p, hp, rfl⟩ := List.mem_map.mp hl
    exact line_nl (kindW_wd hk hp)
  · obtain ⟨o, ho1, rfl⟩ := List.mem_map.mp hl
    exact line_nl (opW_wd hk (ho.each o ho1))
theorem pageL_ne {ks : List (Str × Int)} {os : List Opn} (hk : KsOk ks) : pageL ks os ≠ [] := by
  intro z
  have := List.append_eq_nil_iff.mp z
  exact hk.ne (List.map_eq_nil_iff.mp this.1)
/-- the page, split into lines -/
theorem split_pg {ks : List (Str × Int)} {os : List Opn} (hk : KsOk ks) (ho : OsOk ks os) : Txt.split (page ks os) nlS = pageL ks os := split_page (pageL_ne hk) (pageL_nl hk ho)
/-! a text tells its book -/
theorem ndW_inj {m m' : Int} {ks ks' : List (Str × Int)} {n n' : Nd} {r r' : List Str} (h : NdOk m ks n) (h' : NdOk m' ks' n') (m3 : m ≤ 3) (m3' : m' ≤ 3) (e : ndW n ++ r = ndW n' ++ r') : n = n' ∧ r = r' := by
  cases n <;> cases n'
  case part.part j j' =>
    obtain ⟨j0, j1⟩ := h
    obtain ⟨i0, i1⟩ := h'
    simp only [ndW, List.cons_append, List.nil_append, List.cons.injEq, true_and] at e
    exact ⟨by rw [num_inj j0 (by omega) i0 (by omega) e.1], e.2⟩
  case around.around c j c' j' =>
    obtain ⟨_, j0, j1⟩ := h
    obtain ⟨_, i0, i1⟩ := h'
    simp only [ndW, List.cons_append, List.nil_append, List.cons.injEq, true_and] at e
    exact ⟨by rw [e.1, num_inj j0 (by omega) i0 (by omega) e.2.1], e.2.2⟩
  case inside.inside j c j' c' =>
    obtain ⟨_, j0, j1⟩ := h
    obtain ⟨_, i0, i1⟩ := h'
    simp only [ndW, List.cons_append, List.nil_append, List.cons.injEq, true_and] at e
    exact ⟨by rw [e.2.1, num_inj j0 (by omega) i0 (by omega) e.1], e.2.2⟩
  all_goals
    simp only [ndW, List.cons_append, List.nil_append, List.cons.injEq] at e
    exact absurd e.1 (by decide +kernel)
theorem nds_inj {m m' : Int} {ks ks' : List (Str × Int)} (m3 : m ≤ 3) (m3' : m' ≤ 3) : ∀ {a b : List Nd}, (∀ n ∈ a, NdOk m ks n) → (∀ n ∈ b, NdOk m' ks' n) → a.flatMap ndW = b.flatMap ndW → a = b
  | [], [], _, _, _ => rfl
  | [], n :: b, _, _, e => by
    cases n <;> simp [List.flatMap_cons, ndW] at e
  | n :: a, [], _, _, e => by
    cases n <;> simp [List.flatMap_cons, ndW] at e
  | n :: a, n' :: b, ha, hb, e => by
    rw [List.flatMap_cons, List.flatMap_cons] at e
    obtain ⟨e1, e2⟩ := ndW_inj (ha n (List.mem_cons_self ..)) (hb n' (List.mem_cons_self ..)) m3 m3' e
    rw [e1, nds_inj m3 m3' (fun x hx => ha x (List.mem_cons_of_mem _ hx)) (fun x hx => hb x (List.mem_cons_of_mem _ hx)) e2]
theorem opW_inj {ks ks' : List (Str × Int)} (hk : KsOk ks) (hk' : KsOk ks') {o o' : Opn} (h : OpnOk ks o) (h' : OpnOk ks' o') (e : opW o = opW o') : o = o' := by
  obtain ⟨m, hm, g0, g1, _, hn⟩ := h.ex
  obtain ⟨m', hm', i0, i1, _, hn'⟩ := h'.ex
  have m3 : m ≤ 3 := (hk.num _ hm).2
  have m3' : m' ≤ 3 := (hk'.num _ hm').2
  obtain ⟨w, k, g, nn⟩ := o
  obtain ⟨w', k', g', nn'⟩ := o'
  simp only [opW, List.cons_append, List.nil_append, List.cons.injEq, true_and] at e
  obtain ⟨rfl, rfl, eg, en⟩ := e
  have e3 := num_inj g0 (show g < 4 by have : g < m := g1; omega) i0 (show g' < 4 by have : g' < m' := i1; omega) eg
  have e4 := nds_inj m3 m3' hn hn' en
  have e3 : g = g' := e3
  have e4 : nn = nn' := e4
  subst e3 e4
  rfl
theorem line_inj {a b : List Str} (ha : a ≠ []) (hb : b ≠ []) (wa : ∀ x ∈ a, Wd x) (wb : ∀ x ∈ b, Wd x) (e : lineOf a = lineOf b) : a = b := by
  rw [← split_line ha wa, ← split_line hb wb, e]
theorem pageL_inj {K1 K2 : List (Str × Int)} (h1 : KsOk K1) (h2 : KsOk K2) : ∀ {ks ks' : List (Str × Int)} {os os' : List Opn}, (∀ p ∈ ks, p ∈ K1) → (∀ p ∈ ks', p ∈ K2) → (∀ o ∈ os, OpnOk K1 o) → (∀ o ∈ os', OpnOk K2 o) → pageL ks os = pageL ks' os' → ks = ks' ∧ os = os'
  | [], [], os, os', _, _, a, b, e => by
    refine ⟨rfl, ?_⟩
    simp only [pageL, List.map_nil, List.nil_append] at e
    induction os generalizing os' with
    | nil =>
      cases os' with
      | nil => rfl
      | cons o r => cases e
    | cons o r ih =>
      cases os' with
      | nil => cases e
      | cons o' r' =>
        rw [List.map_cons, List.map_cons, List.cons.injEq] at e
        have oo := a o (List.mem_cons_self ..)
        have oo' := b o' (List.mem_cons_self ..)
        rw [opW_inj h1 h2 oo oo' (line_inj (by simp [opW]) (by simp [opW]) (opW_wd h1 oo) (opW_wd h2 oo') e.1), ih (fun x hx => a x (List.mem_cons_of_mem _ hx)) (os' := r') (fun x hx => b x (List.mem_cons_of_mem _ hx)) e.2]
  | [], p :: r, os, os', _, c, a, _, e => by
    cases os with
    | nil => cases e
    | cons o os =>
      simp only [pageL, List.map_nil, List.nil_append, List.map_cons, List.cons_append, List.cons.injEq] at e
      have := line_inj (by simp [opW]) (by simp [kindW]) (opW_wd h1 (a o (List.mem_cons_self ..))) (kindW_wd h2 (c p (List.mem_cons_self ..))) e.1
      simp only [opW, kindW, List.cons_append, List.cons.injEq] at this
      exact absurd this.1 (by decide +kernel)
  | p :: r, [], os, os', c, _, _, b, e => by
    cases os' with
    | nil => cases e
    | cons o os' =>
      simp only [pageL, List.map_nil, List.nil_append, List.map_cons, List.cons_append, List.cons.injEq] at e
      have := line_inj (by simp [kindW]) (by simp [opW]) (kindW_wd h1 (c p (List.mem_cons_self ..))) (opW_wd h2 (b o (List.mem_cons_self ..))) e.1
      simp only [opW, kindW, List.cons_append, List.cons.injEq] at this
      exact absurd this.1 (by decide +kernel)
  | p :: r, p' :: r', os, os', c, d, a, b, e => by
    simp only [pageL, List.map_cons, List.cons_append, List.cons.injEq] at e
    have hp := c p (List.mem_cons_self ..)
    have hp' := d p' (List.mem_cons_self ..)
    have n1 := h1.num p hp
    have n2 := h2.num p' hp'
    have := line_inj (by simp [kindW]) (by simp [kindW]) (kindW_wd h1 hp) (kindW_wd h2 hp') e.1
    simp only [kindW, List.cons.injEq, true_and, and_true] at this
    obtain ⟨pw, pn⟩ := p
    obtain ⟨qw, qn⟩ := p'
    obtain ⟨e1, e2⟩ := this
    have f1 : pw = qw := e1
    have f2 : pn = qn := num_inj (show 0 ≤ pn by have : 1 ≤ pn := n1.1; omega) (show pn < 4 by have : pn ≤ 3 := n1.2; omega) (show 0 ≤ qn by have : 1 ≤ qn := n2.1; omega) (show qn < 4 by have : qn ≤ 3 := n2.2; omega) e2
    subst f1
    subst f2
    obtain ⟨x, y⟩ := pageL_inj h1 h2 (ks := r) (ks' := r') (os := os) (os' := os') (fun x hx => c x (List.mem_cons_of_mem _ hx)) (fun x hx => d x (List.mem_cons_of_mem _ hx)) a b e.2
    rw [x, y]
    exact ⟨rfl, rfl⟩
/-- unlike books have unlike texts -/
theorem page_inj {ks ks' : List (Str × Int)} {os os' : List Opn} (h1 : KsOk ks) (h2 : KsOk ks') (a : OsOk ks os) (b : OsOk ks' os') (e : page ks os = page ks' os') : ks = ks' ∧ os = os' := by
  have := split_pg h1 a
  rw [e, split_pg h2 b] at this
  exact pageL_inj h1 h2 (fun _ h => h) (fun _ h => h) a.each b.each this.symm
end K12

set_option Elab.async false
set_option linter.all false
set_option maxRecDepth 100000
set_option maxHeartbeats 4000000
/-! == of books. -/
namespace K12
open PySem PySem.Spec PyProof.Rows L2 Mine TL SkE StX
abbrev sEq : Stmt := inClass (top 33) 1
theorem kd_dp {K : PySem.W.Frag} {H : Hp} : ∀ {ps : List Addr} {ks : List (Str × Int)}, Paired (fun a p => SqT K H a [.str p.1, .int p.2]) ps ks → DpAll K H (ps.map V.ref) (ks.map kD)
  | _, _, .nil => .nil
  | _, _, .cons h r => .cons (.tup h (.cons (.str _) (.cons (.int _) .nil))) (kd_dp r)
theorem nd_dp {K : PySem.W.Frag} {H : Hp} {x : Addr} {n : Nd} (h : SqT K H x (ndV n)) : Dp K H (.ref x) (ndD n) := by
  cases n with
  | part j => exact .tup h (.cons (.str _) (.cons (.int _) .nil))
  | around c j => exact .tup h (.cons (.str _) (.cons (.str _) (.cons (.int _) .nil)))
  | inside j c => exact .tup h (.cons (.str _) (.cons (.int _) (.cons (.str _) .nil)))
theorem nds_dp {K : PySem.W.Frag} {H : Hp} : ∀ {bs : List Addr} {nn : List Nd}, Paired (fun x n => SqT K H x (ndV n)) bs nn → DpAll K H (bs.map V.ref) (nn.map ndD)
  | _, _, .nil => .nil
  | _, _, .cons h r => .cons (nd_dp h) (nds_dp r)
theorem ops_dp {K : PySem.W.Frag} {H : Hp} : ∀ {as : List Addr} {os : List Opn}, Paired (OpnAt K H) as os → DpAll K H (as.map V.ref) (os.map opD)
  | _, _, .nil => .nil
  | _, _, .cons ⟨b, bs, h1, h2, h3⟩ r => .cons (.tup h1 (.cons (.str _) (.cons (.str _) (.cons (.int _) (.cons (.tup h2 (nds_dp h3)) .nil))))) (ops_dp r)
mutual
theorem eqv_me : ∀ d : PyData, d.canLay0 = true → PyData.eqv d d = true
  | .none, _ => by simp [PyData.eqv]
  | .bool b, _ => by simp [PyData.eqv]
  | .int i, _ => by simp [PyData.eqv]
  | .str x, _ => by simp [PyData.eqv]
  | .list ds, h => by
    simp only [PyData.canLay0] at h
    simp only [PyData.eqv]
    exact eqvs_me ds h
  | .tuple ds, h => by
    simp only [PyData.canLay0] at h
    simp only [PyData.eqv]
    exact eqvs_me ds h
  | .dict kvs, h => by simp [PyData.canLay0] at h
theorem eqvs_me : ∀ ds : List PyData, PyData.canLayAll0 ds = true → PyData.eqvAll ds ds = true
  | [], _ => by simp [PyData.eqvAll]
  | d :: ds, h => by
    have h' : d.canLay0 = true ∧ PyData.canLayAll0 ds = true := by simpa [PyData.canLayAll0] using h
    simp only [PyData.eqvAll, Bool.and_eq_true]
    exact ⟨eqv_me d h'.1, eqvs_me ds h'.2⟩
end
theorem ww_ok : ∀ x ∈ WW, PyData.strOk x = true := by decide +kernel
theorem ks_lay {ks : List (Str × Int)} (h : KsOk ks) : PyData.canLay0 (.tuple (ks.map kD)) = true := by
  simp only [PyData.canLay0]
  exact kds_lay ks fun p hp => ww_ok _ (h.ww p hp)
theorem ks_sh {ks : List (Str × Int)} (h : KsOk ks) : SeqAt.shaped (.tuple (ks.map kD)) = true := by
  show (PyData.canLay0 _ && decide (PyData.depth _ ≤ 64)) = true
  rw [Bool.and_eq_true]
  refine ⟨ks_lay h, decide_eq_true ?_⟩
  have := kds_dep ks
  simp only [PyData.depth]
  omega
theorem nd_lay {m : Int} {ks : List (Str × Int)} {n : Nd} (h : NdOk m ks n) (kw : ∀ p ∈ ks, p.1 ∈ WW) : PyData.canLay0 (ndD n) = true ∧ PyData.depth (ndD n) ≤ 1 := by
  cases n with
  | part j => exact ⟨by simp only [ndD, PyData.canLay0, PyData.canLayAll0, Bool.and_eq_true]; exact ⟨by decide +kernel, trivial, trivial⟩, by simp [ndD, PyData.depth, PyData.depthAll]⟩
  | around c j => exact ⟨by simp only [ndD, PyData.canLay0, PyData.canLayAll0, Bool.and_eq_true]; exact ⟨by decide +kernel, ww_ok _ (kw _ h.1), trivial, trivial⟩, by simp [ndD, PyData.depth, PyData.depthAll]⟩
  | inside j c => exact ⟨by simp only [ndD, PyData.canLay0, PyData.canLayAll0, Bool.and_eq_true]; exact ⟨by decide +kernel, trivial, ww_ok _ (kw _ h.1), trivial⟩, by simp [ndD, PyData.depth, PyData.depthAll]⟩
theorem all_lay {ds : List PyData} {n : Nat} (h : ∀ d ∈ ds, PyData.canLay0 d = true ∧ PyData.depth d ≤ n) : PyData.canLayAll0 ds = true ∧ PyData.depthAll ds ≤ n := by
  induction ds with
  | nil => simp [PyData.canLayAll0, PyData.depthAll]
  | cons d ds ih =>
    obtain ⟨a, b⟩ := h d (List.mem_cons_self ..)
    obtain ⟨c, e⟩ := ih fun x hx => h x (List.mem_cons_of_mem _ hx)
    refine ⟨by simp only [PyData.canLayAll0, a, c]; rfl, ?_⟩
    simp only [PyData.depthAll]
    omega
theorem op_lay {ks : List (Str × Int)} {o : Opn} (h : OpnOk ks o) (kw : ∀ p ∈ ks, p.1 ∈ WW) : PyData.canLay0 (opD o) = true ∧ PyData.depth (opD o) ≤ 3 := by
  obtain ⟨m, hm, _, _, _, hn⟩ := h.ex
  obtain ⟨a, b⟩ := all_lay (n := 1) (ds := o.nn.map ndD) fun d hd => by
    obtain ⟨n, hn1, rfl⟩ := List.mem_map.mp hd
    exact nd_lay (hn n hn1) kw
  refine ⟨?_, ?_⟩
  · simp only [opD, PyData.canLay0, PyData.canLayAll0, Bool.and_eq_true]
    exact ⟨ww_ok _ h.ww, ww_ok _ (kw _ hm), trivial, a, trivial⟩
  · simp only [opD, PyData.depth, PyData.depthAll]
    omega
theorem os_lay {ks : List (Str × Int)} {os : List Opn} (hk : KsOk ks) (h : OsOk ks os) : PyData.canLay0 (.tuple (os.map opD)) = true ∧ SeqAt.shaped (.tuple (os.map opD)) = true := by
  obtain ⟨a, b⟩ := all_lay (n := 3) (ds := os.map opD) fun d hd => by
    obtain ⟨o, ho, rfl⟩ := List.mem_map.mp hd
    exact op_lay (h.each o ho) hk.ww
  have l : PyData.canLay0 (.tuple (os.map opD)) = true := by
    simp only [PyData.canLay0]
    exact a
  refine ⟨l, ?_⟩
  show (PyData.canLay0 _ && decide (PyData.depth _ ≤ 64)) = true
  rw [Bool.and_eq_true]
  refine ⟨l, decide_eq_true ?_⟩
  simp only [PyData.depth]
  omega
/-- a book that stands -/
structure BkAt (K : PySem.W.Frag) (C : Addr) (H : Hp) (x : Addr) (ks : List (Str × Int)) (os : List Opn) : Prop where
  ex : ∃ (dx kk oo : Addr) (ps as : List Addr), H x = some (.ins C dx (fsB kk oo)) ∧ KindsAt K H kk ps ks ∧ OpnsAt K H oo as os
  kok : KsOk ks
  ook : OsOk ks os
theorem BkAt.same {K : PySem.W.Frag} {C : Addr} {H H' : Hp} {x : Addr} {ks : List (Str × Int)} {os : List Opn} (b : BkAt K C H x ks os) (k : Same H H') : BkAt K C H' x ks os :=
  let ⟨dx, kk, oo, ps, as, h1, h2, h3⟩ := b.ex
  ⟨⟨dx, kk, oo, ps, as, k _ _ h1, h2.same k, h3.same k⟩, b.kok, b.ook⟩
def Alike (K : PySem.W.Frag) (C : Addr) (a b : Addr) (H : Hp) : Prop := ∃ ks os, BkAt K C H a ks os ∧ BkAt K C H b ks os
/-- what the class must have to be asked for -/
structure TxtEq (K : PySem.W.Frag) (mg : Str → Option Value) (C : Addr) : Prop where
  cl : Cls K C
  nK : NoAttr K C "kinds"
  nO : NoAttr K C "openings"
  isi : mg "isinstance" = none
  gB : mg "Book" = some (.ref C)
  ha : PySem.W.findIn K (.ref C) "__class__" = some (some (.builtin "object.__class__"))
  hn : PySem.W.specialIn K (.builtin "object.__class__") "__get__" = some (some (.builtin "getset_descriptor.__get__"))
  ht : PySem.W.takesIn K (.builtin "object.__class__") = some true
  hm : PySem.W.mroIn K C (.type "object") = some true
theorem kit_me {K : PySem.W.Frag} {C : Addr} : PySem.W.kitOne K (.ref C) (.ref C) = some true := by
  unfold PySem.W.kitOne
  rw [if_pos (beq_self_eq_true _)]
section
variable {P : Program} {w : World} {K : PySem.W.Frag} {mg : Str → Option Value} {base : Heap}
theorem scEq : FnScope ["self", "other"] ["self", "other"] (defScope sEq) := ⟨rfl, rfl, rfl, by decide +kernel, rfl, by decide +kernel, by decide +kernel⟩
theorem ok_eq {f C : Addr} {fd : FuncData} (F : Fun K "__eq__" "Book.__eq__" sEq f fd) (T : TxtEq K mg C) : FnOk P w K mg base CX0 1 f fd ["self", "other"] (spEq (Alike K C)) := by
  refine F.ok scEq (fun vs H Q E h => ?_) (fun cdv A outer s H vs Q E hr h => ?_)
  · obtain ⟨_, _, rfl, _⟩ := h
    rfl
  · obtain ⟨a, b, rfl, ⟨ks, os, A1, B1⟩, k⟩ := h
    obtain ⟨dx, kk, oo, ps, as, ha, hk, hO⟩ := A1.ex
    obtain ⟨dy, kk', oo', ps', as', hb, hk', hO'⟩ := B1.ex
    refine ⟨_, pss_one (ps_ret (pe_and (pe_callB call_isi (by rfl) T.isi (by decide +kernel) (pa_cons (pv 1) (pa_cons (pe_glob (v := .ref C) rfl T.gB rfl) pa_nil)))
      (pe_and (pe_cmpR (op_eqD hr.units) (pe_fld (pv 0) rfl) (pe_fld (pv 1) rfl) (nomark _)) (pe_one (pe_cmpR (op_eqD hr.units) (pe_fld (pv 0) rfl) (pe_fld (pv 1) rfl) (nomark _)))))), ?_⟩
    have e1 := eqv_me _ (ks_lay A1.kok)
    obtain ⟨ol, osh⟩ := os_lay A1.kok A1.ook
    have e2 := eqv_me _ ol
    refine ⟨_, rfl, _, _, _, _, true, rfl, .own C, .base (.ins hb T.cl T.ha T.hn T.ht T.hm), kit_me, _, rfl, ite2 (fun _ => ?_) (fun z => absurd rfl z)⟩
    refine ⟨_, rfl, a, C, dx, _, _, rfl, ha, T.cl, T.nK, rfl, _, rfl, b, C, dy, _, _, rfl, hb, T.cl, T.nK, rfl, _, _, .tup hk.at_.sq (kd_dp hk.each), .tup hk'.at_.sq (kd_dp hk'.each), ks_sh A1.kok, ks_sh A1.kok, _, rfl, ite2 (fun _ => ?_) (fun z => absurd e1 z)⟩
    refine ⟨_, rfl, a, C, dx, _, _, rfl, ha, T.cl, T.nO, rfl, _, rfl, b, C, dy, _, _, rfl, hb, T.cl, T.nO, rfl, _, _, .tup hO.at_ (ops_dp hO.each), .tup hO'.at_ (ops_dp hO'.each), osh, osh, ?_⟩
    rw [e2]
    exact k _ fun _ _ e => e
end
end K12

set_option Elab.async false
set_option linter.all false
set_option maxRecDepth 100000
set_option maxHeartbeats 4000000
/-! Things as they stand, and that they stay; all pieces of some things. -/
namespace K12
open PySem PySem.Spec PyProof.Rows L2 Mine TL
/-- every tuple stays -/
def KT (K : PySem.W.Frag) (H H' : Hp) : Prop := ∀ a xs, SqT K H a xs → SqT K H' a xs
theorem KT.refl {K : PySem.W.Frag} {H : Hp} : KT K H H := fun _ _ h => h
theorem KT.tr {K : PySem.W.Frag} {H H1 H2 : Hp} (a : KT K H H1) (b : KT K H1 H2) : KT K H H2 := fun p xs h => b p xs (a p xs h)
theorem kt_same {K : PySem.W.Frag} {H H' : Hp} (s : Same H H') : KT K H H' := fun a xs h => by
  rcases h with (e | ⟨o, e⟩) | h
  · exact .inl (.inl (s _ _ e))
  · exact .inl (.inr ⟨o, s _ _ e⟩)
  · exact .inr h
theorem kt_new {K : PySem.W.Frag} {H : Hp} {p : Addr} {o : HO} (h : H p = none) : KT K H (upd H p o) := kt_same fun b u e => (upd_ne (ne_of_none e h)).trans e
theorem kt_lst {K : PySem.W.Frag} {H : Hp} {p : Addr} {xs ys : List V} (h : H p = some (.lst xs)) : KT K H (upd H p (.lst ys)) := fun a zs e => by
  rcases e with (e | ⟨o, e⟩) | e
  · exact .inl (.inl ((upd_ne (ne_of e h (by intro z; cases z))).trans e))
  · exact .inl (.inr ⟨o, (upd_ne (ne_of e h (by intro z; cases z))).trans e⟩)
  · exact .inr e
mutual
theorem th_kt {K : PySem.W.Frag} {H H' : Hp} (k : KT K H H') : ∀ (d : PyData) (v : V), thing d = true → Dp K H v d → Dp K H' v d
  | .str x, _, _, h => by cases h; exact .str x
  | .tuple (.str c :: d :: ds), _, t, h => by
    have t' : thing d = true ∧ thingAll ds = true := by simpa [thing] using t
    cases h with
    | tup e r =>
      cases r with
      | cons h1 r =>
        cases h1
        cases r with
        | cons h2 r => exact .tup (k _ _ e) (.cons (.str _) (.cons (th_kt k d _ t'.1 h2) (ths_kt k ds _ t'.2 r)))
  | .none, _, t, _ => by simp [thing] at t
  | .bool _, _, t, _ => by simp [thing] at t
  | .int _, _, t, _ => by simp [thing] at t
  | .list _, _, t, _ => by simp [thing] at t
  | .dict _, _, t, _ => by simp [thing] at t
  | .tuple [], _, t, _ => by simp [thing] at t
  | .tuple [d], _, t, _ => by cases d <;> simp [thing] at t
  | .tuple (.none :: _ :: _), _, t, _ => by simp [thing] at t
  | .tuple (.bool _ :: _ :: _), _, t, _ => by simp [thing] at t
  | .tuple (.int _ :: _ :: _), _, t, _ => by simp [thing] at t
  | .tuple (.list _ :: _ :: _), _, t, _ => by simp [thing] at t
  | .tuple (.tuple _ :: _ :: _), _, t, _ => by simp [thing] at t
  | .tuple (.dict _ :: _ :: _), _, t, _ => by simp [thing] at t
theorem ths_kt {K : PySem.W.Frag} {H H' : Hp} (k : KT K H H') : ∀ (ds : List PyData) (vs : List V), thingAll ds = true → DpAll K H vs ds → DpAll K H' vs ds
  | [], _, _, h => by cases h; exact .nil
  | d :: ds, _, t, h => by
    have t' : thing d = true ∧ thingAll ds = true := by simpa [thingAll] using t
    cases h with
    | cons h1 h2 => exact .cons (th_kt k d _ t'.1 h1) (ths_kt k ds _ t'.2 h2)
end
theorem dps_len {K : PySem.W.Frag} {H : Hp} : ∀ {vs : List V} {ds : List PyData}, DpAll K H vs ds → vs.length = ds.length
  | _, _, .nil => rfl
  | _, _, .cons _ r => by rw [List.length_cons, List.length_cons, dps_len r]
theorem dps_app {K : PySem.W.Frag} {H : Hp} : ∀ {vs ws : List V} {ds es : List PyData}, DpAll K H vs ds → DpAll K H ws es → DpAll K H (vs ++ ws) (ds ++ es)
  | _, _, _, _, .nil, h => h
  | _, _, _, _, .cons a r, h => .cons a (dps_app r h)
theorem dps_at {K : PySem.W.Frag} {H : Hp} : ∀ {vs : List V} {ds : List PyData} {i : Nat} {d : PyData}, DpAll K H vs ds → ds[i]? = some d → ∃ v, vs[i]? = some v ∧ Dp K H v d
  | _, _, 0, d, .cons h _, e => ⟨_, rfl, by cases e; exact h⟩
  | _, _, i + 1, d, .cons _ r, e => by
    obtain ⟨v, e1, h1⟩ := dps_at r (i := i) e
    exact ⟨v, e1, h1⟩
/-- a thing that stands, by its two shapes -/
theorem th_cases {K : PySem.W.Frag} {H : Hp} {v : V} {d : PyData} (t : thing d = true) (h : Dp K H v d) :
    (∃ c, d = .str c ∧ v = .str c) ∨ ∃ (a : Addr) (c : Str) (ws : List V) (ps : List PyData), d = .tuple (.str c :: ps) ∧ v = .ref a ∧ SqT K H a (.str c :: ws) ∧ DpAll K H ws ps ∧ ps ≠ [] ∧ ∀ p ∈ ps, thing p = true := by
  rcases thing_cases t with ⟨c, rfl⟩ | ⟨c, ps, rfl, ne, e⟩
  · cases h
    exact .inl ⟨c, rfl, rfl⟩
  · cases h with
    | tup e1 r =>
      cases r with
      | cons h1 r =>
        cases h1
        exact .inr ⟨_, c, _, ps, rfl, rfl, e1, r, ne, e⟩
theorem sqT_ty' {K : PySem.W.Frag} {H : Hp} {a : Addr} {xs : List V} (h : SqT K H a xs) : TyX K H (.ref a) (.type "tuple") := by
  rcases h with (h | ⟨o, h⟩) | ⟨o, its, n, e, c, _⟩
  · exact .base (.tup h)
  · exact .fTuple h
  · exact .kTuple e c
/-- the number in a slot -/
def slotN (σ : L2.St) (i : Nat) : Nat := match σ[i]? with
  | some (some (V.int n)) => n.toNat
  | _ => 0
abbrev sPieces : Stmt := top 15
structure TxtPc (mg : Str → Option Value) : Prop where
  list : mg "list" = none
  len : mg "len" = none
  isi : mg "isinstance" = none
  tuple : mg "tuple" = none
def spPieces (K : PySem.W.Frag) : Sp := fun vs H Q _ => ∃ (a : Addr) (ws : List V) (ts : List PyData), vs = [.ref a] ∧ (SqL K H a ws ∨ SqT K H a ws) ∧ DpAll K H ws ts ∧ (∀ t ∈ ts, thing t = true) ∧ (ts.flatMap lot).length ≤ 10000 ∧
  ∀ (p : Addr) (P : List PyData) (us : List V) (H' : Hp), Same H H' → H p = none → H' p = some (.lst us) → DpAll K H' us P → Bfs ts P → Q (.ref p) H'
abbrev nPieces : List Str := ["things", "pieces", "at", "piece"]
theorem scPieces : FnScope nPieces ["things"] (defScope sPieces) := ⟨rfl, rfl, rfl, by decide +kernel, rfl, by decide +kernel, by decide +kernel⟩
theorem cut1' (c : V) (ws : List V) : cutV (c :: ws) (some 1) none = ws := by
  unfold cutV
  have e : HT.sIx (c :: ws).length 0 (some 1) = 1 := by
    simp [HT.sIx]
  have e2 : HT.sIx (c :: ws).length (c :: ws).length none = ws.length + 1 := by
    simp [HT.sIx]
  rw [e, e2]
  simp
section
variable {P : Program} {w : World} {K : PySem.W.Frag} {mg : Str → Option Value} {base : Heap}
theorem ok_pieces {f : Addr} {fd : FuncData} (F : Fun K "all_pieces" "all_pieces" sPieces f fd) (T : TxtPc mg) : FnOk P w K mg base CX0 1 f fd ["things"] (spPieces K) := by
  refine F.ok scPieces (fun vs H Q E h => ?_) (fun cdv A outer s H vs Q E hr h => ?_)
  · obtain ⟨_, _, _, rfl, _⟩ := h
    rfl
  · obtain ⟨a, ws, ts, rfl, ha, hd, ht, hn, k⟩ := h
    refine ⟨_, pss_cons (ps_set (i := 1) scPieces.nd rfl (.inl rfl) (pe_callTy call_list_of (by rfl) T.list (by decide +kernel) (pa_cons (pv 0) pa_nil)))
      (pss_cons (ps_set (i := 2) scPieces.nd rfl (.inl rfl) pe_int)
      (pss_cons (ps_while PassesOwn.never (pt_cmpR op_lt (pv 2) (pe_callB call_len_seq (by rfl) T.len PySem.boot_len (pa_cons (pv 1) pa_nil)) (nomark _))
        (pss_cons (ps_set (i := 3) scPieces.nd rfl (.inl rfl) (pe_ix ix_list (pv 1) (pv 2) (fun _ _ => rfl)))
        (pss_cons (ps_if (pt_val (pe_callB call_isi (by rfl) T.isi (by decide +kernel) (pa_cons (pv 3) (pa_cons (pe_bltn (v := .ty "tuple") rfl T.tuple (by decide +kernel) rfl) pa_nil))))
          (pss_one (ps_expr (pe_bm PySem.F.plainAttrs_list PySem.F.slot_list_extend PySem.F.type_list_extend mt_extendF (pv 1) (pa_cons (pe_slice sl_tupF (pv 3) (po_some pe_int) po_none) pa_nil)))) pss_nil)
        (pss_one (ps_aug (i := 2) scPieces.nd rfl (.inl rfl) pe_int ip_add)))))
      (pss_one (ps_ret (pv 1))))), ?_⟩
    refine ⟨_, rfl, a, _, rfl, ha, fun p hp => ?_⟩
    have s1 : Same H (upd H p (.lst ws)) := same_new same_rfl hp
    have tsA : thingAll ts = true := thingAll_iff.mpr ht
    refine while_by (fun σ H' => ∃ (D R : List PyData) (us : List V) (o3 : Option V), σ = [some (.ref a), some (.ref p), some (.int (D.length : Nat)), o3] ∧ H' p = some (.lst us) ∧ DpAll K H' us (D ++ R) ∧ BfsW ts D R ∧ Same H H')
      (fun σ _ => (ts.flatMap lot).length - slotN σ 2) ⟨[], ts, ws, none, rfl, upd_same, ths_kt (kt_same s1) ts ws tsA hd, .init ts, s1⟩ ?_ ?_
    · rintro σ H' ⟨D, R, us, o3, rfl, ep, dp, bw, sm⟩
      have cnt := bw.count
      have ul := dps_len dp
      have line : sizeLine = 16777216 := sizeLine_eq
      refine ⟨_, rfl, _, rfl, p, _, rfl, .inl (SqL.of ep), _, _, rfl, rfl, _, rfl, ite2 (fun lt => ?_) (fun ge => ?_)⟩
      · have lt' : D.length < us.length := by
          have := of_decide_eq_true lt
          omega
        obtain ⟨x, R', rfl⟩ : ∃ x R', R = x :: R' := by
          cases R with
          | nil => rw [ul, List.append_nil] at lt'; exact absurd lt' (Nat.lt_irrefl _)
          | cons x R' => exact ⟨x, R', rfl⟩
        have hx : (D ++ x :: R')[D.length]? = some x := by simp
        obtain ⟨v, hv, dv⟩ := dps_at dp hx
        have tall : ∀ y ∈ D ++ x :: R', thing y = true := by
          have step := bw.step
          intro y hy
          rw [bw.eq] at hy
          rcases List.mem_append.mp hy with hy | hy
          · exact ht y hy
          · obtain ⟨z, hz, hy⟩ := List.mem_flatMap.mp hy
            obtain ⟨t, ht1, ht2⟩ := List.mem_flatMap.mp (bw.perm.mem_iff.mp (List.mem_append_left _ hz))
            exact thing_kids (lot_thing _ t (Nat.le_refl _) (ht t ht1) z ht2) hy
        have tx : thing x = true := tall x (List.mem_append_right _ (List.mem_cons_self ..))
        have bs := bw.step
        have cnt2 := bs.count
        rw [List.length_append] at cnt2
        have i0 : (ts.flatMap lot).length - (((D.length : Nat) : Int) + 1).toNat < (ts.flatMap lot).length - ((D.length : Nat) : Int).toNat := by
          simp only [List.length_append, List.length_cons] at cnt
          omega
        have cast : ((D.length : Nat) : Int) + 1 = (((D ++ [x]).length : Nat) : Int) := by
          rw [List.length_append]
          simp
        refine ⟨_, rfl, _, rfl, p, _, _, _, rfl, rfl, SqL.of ep, atI_nat hv, ?_⟩
        rcases th_cases tx dv with ⟨c, rfl, rfl⟩ | ⟨b, c, zs, ps, rfl, rfl, hb, hzs, _, _⟩
        · refine ⟨_, rfl, _, _, _, _, false, rfl, .ty "tuple", .base (.str _), kit_ty rfl, _, rfl, ite2 (fun z => absurd z (by decide)) (fun _ => ?_)⟩
          refine ⟨_, rfl, _, _, rfl, rfl, ?_⟩
          refine ⟨⟨D ++ [.str c], R', us, some (.str c), by rw [← cast]; rfl, ep, ?_, ?_, sm⟩, i0⟩
          · rw [List.append_assoc]
            exact dp
          · have := bs
            simpa [kids] using this
        · refine ⟨_, rfl, _, _, _, _, true, rfl, .ty "tuple", sqT_ty' hb, kit_ty rfl, _, rfl, ite2 (fun _ => ?_) (fun z => absurd rfl z)⟩
          have zl := dps_len hzs
          have ul' := ul
          simp only [List.length_append, List.length_cons] at ul' cnt cnt2
          refine ⟨_, rfl, .inl ⟨rfl, _, SqL.of ep⟩, _, rfl, _, rfl, b, _, rfl, hb, by simp [HT.sIx], fun q o hq ho => ?_⟩
          rw [cut1']
          have eq1 : upd H' q (.frz o (.tup zs)) p = some (.lst us) := (upd_ne (ne_of_none ep hq)).trans ep
          have kn : kids (.tuple (.str c :: ps)) = ps := rfl
          rw [kn] at cnt2
          refine ⟨p, q, o, us, zs, rfl, rfl, eq1, upd_same, ho, by rw [line]; omega, ?_⟩
          have kt1 : KT K H' (upd (upd H' q (.frz o (.tup zs))) p (.lst (us ++ zs))) := (kt_new hq).tr (kt_lst eq1)
          refine ⟨_, rfl, _, _, rfl, rfl, ?_⟩
          refine ⟨⟨D ++ [.tuple (.str c :: ps)], R' ++ ps, us ++ zs, some (.ref b), by rw [← cast]; rfl, upd_same, ?_, bs, fun b1 o1 e1 => (upd_ne (ne_of_none e1 hp)).trans ((upd_ne (ne_of_none (sm _ _ e1) hq)).trans (sm _ _ e1))⟩, i0⟩
          have e3 : D ++ [.tuple (.str c :: ps)] ++ (R' ++ ps) = (D ++ .tuple (.str c :: ps) :: R') ++ ps := by simp
          rw [e3]
          have all : thingAll ((D ++ .tuple (.str c :: ps) :: R') ++ ps) = true := thingAll_iff.mpr fun y hy => by
            rcases List.mem_append.mp hy with hy | hy
            · exact tall y hy
            · exact thing_kids tx hy
          exact ths_kt kt1 _ _ all (dps_app dp hzs)
      · have ge' : ¬ (D.length < us.length) := fun z => ge (decide_eq_true (by omega))
        have : R = [] := by
          cases R with
          | nil => rfl
          | cons x R' => rw [ul] at ge'; simp at ge'
        subst this
        rw [List.append_nil] at dp
        exact ⟨_, rfl, k p D us H' sm hp ep dp bw.fin⟩
    · rintro σ H' Q1 Q2 imp ⟨v, e1, v2, e2, q, xs, e3, e4, i, j, e5, e6, b, e7, r⟩
      exact ⟨v, e1, v2, e2, q, xs, e3, e4, i, j, e5, e6, b, e7, imp _ _ r⟩
end
end K12

set_option Elab.async false
set_option linter.all false
set_option maxRecDepth 100000
set_option maxHeartbeats 4000000
/-! The texts of all pieces. -/
namespace K12
open PySem PySem.Spec PyProof.Rows L2 Mine TL
abbrev sTexts : Stmt := top 16
theorem joinL_len {S : List Nat} : ∀ {ps : List (List Nat)}, ps ≠ [] → (joinL S ps).length + S.length = (ps.map List.length).sum + ps.length * S.length
  | [], h => absurd rfl h
  | [p], _ => by simp [joinL]
  | p :: q :: r, _ => by
    have ih := joinL_len (S := S) (ps := q :: r) (List.cons_ne_nil _ _)
    show (p ++ (S ++ joinL S (q :: r))).length + S.length = _
    simp only [List.length_append, List.map_cons, List.sum_cons, List.length_cons] at ih ⊢
    rw [Nat.succ_mul]
    omega
theorem join_len {y : Str} {ps : List Str} (h : ps ≠ []) : (Str.join y ps).length + y.length = (ps.map (·.length)).sum + ps.length * y.length := by
  have e := joinL_len (S := tl y) (ps := ps.map tl) (by simpa using h)
  rw [← tl_join] at e
  have e1 : ∀ z : Str, (tl z).length = z.length := fun z => by simp [tl, Str.length]
  rw [e1, e1, List.map_map, List.length_map] at e
  have e2 : (List.length ∘ tl) = fun z : Str => z.length := funext fun z => e1 z
  rw [e2] at e
  exact e
theorem at0 {α : Type} {x : α} {xs : List α} : atI (x :: xs) 0 = some x := atI_nat (j := 0) (xs := x :: xs) rfl
theorem set_mid {α : Type} {us R : List α} {i : Nat} {v y : α} (h : us[i]? = some v) : (us.take (i + 1) ++ R).set i y = us.take i ++ y :: R := by
  have lt : i < us.length := (List.getElem?_eq_some_iff.mp h).1
  rw [List.take_add_one, h]
  have e : (us.take i).length = i := by rw [List.length_take]; omega
  show (us.take i ++ [v] ++ R).set i y = _
  rw [List.append_assoc, List.set_append_right _ _ (by omega), e, Nat.sub_self]
  rfl
structure TxtTx (mg : Str → Option Value) : Prop extends TxtPc mg where
  range : mg "range" = none
  reversed : mg "reversed" = none
/-- what a worklist of things promises of sizes -/
structure Fits (ts P : List PyData) : Prop where
  bfs : Bfs ts P
  things : ∀ p ∈ P, thing p = true
  many : P.length ≤ 10000
  long : ∀ p ∈ P, (txt p).length ≤ 1000000
def spTexts (K : PySem.W.Frag) : Sp := fun vs H Q _ => ∃ (a : Addr) (us : List V) (ts P : List PyData), vs = [.ref a] ∧ H a = some (.lst us) ∧ DpAll K H us P ∧ Fits ts P ∧
  ∀ (q : Addr) (H' : Hp), Same H H' → H q = none → H' q = some (.lst ((P.map txt).map V.str)) → Q (.ref q) H'
abbrev nTexts : List Str := ["pieces", "texts", "end", "at", "piece", "begin", "inside"]
theorem scTexts : FnScope nTexts ["pieces"] (defScope sTexts) := ⟨rfl, rfl, rfl, by decide +kernel, rfl, by decide +kernel, by decide +kernel⟩
/-- where the parts of the pieces from place m on begin -/
def endAt (ts P : List PyData) (m : Nat) : Nat := ts.length + ((P.take m).flatMap kids).length
def half (us : List V) (P : List PyData) (m : Nat) : List V := us.take m ++ ((P.drop m).map txt).map V.str
section
variable {P : Program} {w : World} {K : PySem.W.Frag} {mg : Str → Option Value} {base : Heap}
theorem ok_texts {f : Addr} {fd : FuncData} (F : Fun K "all_texts" "all_texts" sTexts f fd) (T : TxtTx mg) : FnOk P w K mg base CX0 1 f fd ["pieces"] (spTexts K) := by
  refine F.ok scTexts (fun vs H Q E h => ?_) (fun cdv A outer s H vs Q E hr h => ?_)
  · obtain ⟨_, _, _, _, rfl, _⟩ := h
    rfl
  · obtain ⟨a, us, ts, Ps, rfl, ha, hd, fit, k⟩ := h
    refine ⟨_, pss_cons (ps_set (i := 1) scTexts.nd rfl (.inl rfl) (pe_callTy call_list_of (by rfl) T.list (by decide +kernel) (pa_cons (pv 0) pa_nil)))
      (pss_cons (ps_set (i := 2) scTexts.nd rfl (.inl rfl) (pe_callB call_len_seq (by rfl) T.len PySem.boot_len (pa_cons (pv 0) pa_nil)))
      (pss_cons (ps_for PassesOwn.never rfl (pi_revR (by rfl) T.reversed (prg_1 (by rfl) T.range (pe_callB call_len_seq (by rfl) T.len PySem.boot_len (pa_cons (pv 0) pa_nil)))) (pg_name (i := 3) scTexts.nd rfl (.inl rfl))
        (pss_cons (ps_set (i := 4) scTexts.nd rfl (.inl rfl) (pe_ix ix_list (pv 0) (pv 3) (fun _ _ => rfl)))
        (pss_one (ps_if (pt_val (pe_callB call_isi (by rfl) T.isi (by decide +kernel) (pa_cons (pv 4) (pa_cons (pe_bltn (v := .ty "tuple") rfl T.tuple (by decide +kernel) rfl) pa_nil))))
          (pss_cons (ps_set (i := 5) scTexts.nd rfl (.inl rfl) (pe_op op_add (pe_op op_sub (pv 2) (pe_callB call_len_seq (by rfl) T.len PySem.boot_len (pa_cons (pv 4) pa_nil))) pe_int))
          (pss_cons (ps_set (i := 6) scTexts.nd rfl (.inl rfl) (pe_m1 PySem.F.slot_str_join PySem.F.type_str_join mt_join pe_str (pe_slice sl_list (pv 1) (po_some (pv 5)) (po_some (pv 2)))))
          (pss_cons (ps_asg (pe_joined (PJ.cons (pe_fmt (pe_ix ix_tup (pv 4) pe_int (fun _ _ => rfl))) (PJ.cons pe_str (PJ.cons (pe_fmt (pv 6)) (PJ.cons pe_str PJ.nil))))) (pg_sub (pv 1) (pv 3) set_list))
          (pss_one (ps_set (i := 2) scTexts.nd rfl (.inl rfl) (pv 5)))))) pss_nil))))
      (pss_one (ps_ret (pv 1))))), ?_⟩
    have ul := dps_len hd
    have line : sizeLine = 16777216 := sizeLine_eq
    have many := fit.many
    have all := fit.bfs.all
    refine ⟨_, rfl, a, _, rfl, .inl (SqL.of ha), fun q hq => ?_⟩
    have s1 : Same H (upd H q (.lst us)) := same_new same_rfl hq
    have eq0 : upd H q (.lst us) q = some (.lst us) := upd_same
    show Ends.nx _ _ (upd H q (.lst us))
    generalize upd H q (.lst us) = H1 at s1 eq0
    refine ⟨_, rfl, a, _, rfl, .inl (SqL.of (s1 _ _ ha)), _, rfl, a, _, rfl, .inl (SqL.of (s1 _ _ ha)), _, rfl, by decide, by decide, by omega, by omega, ?_⟩
    refine for_rangeC (n := ((us.length : Int) - 0).toNat) (fun i σ H' => ∃ o3 o4 o5 o6 : Option V, σ = [some (.ref a), some (.ref q), some (.int (endAt ts Ps (us.length - i) : Nat)), o3, o4, o5, o6] ∧ H' q = some (.lst (half us Ps (us.length - i))) ∧ Same H H')
      ⟨none, none, none, none, ?_, ?_, s1⟩ ?_ ?_
    · have e : endAt ts Ps us.length = us.length := by
        unfold endAt
        rw [List.take_of_length_le (by omega)]
        omega
      rw [Nat.sub_zero, e]
      rfl
    · rw [Nat.sub_zero]
      unfold half
      rw [List.take_of_length_le (Nat.le_refl _), List.drop_eq_nil_of_le (by omega)]
      simpa using eq0
    · rintro i σ H' hi ⟨o3, o4, o5, o6, rfl, eq, sm⟩
      have hi' : i < us.length := by omega
      obtain ⟨m, hm⟩ : ∃ m, us.length - i = m + 1 := ⟨us.length - i - 1, by omega⟩
      have hm2 : us.length - (i + 1) = m := by omega
      have mlt : m < Ps.length := by omega
      rw [hm] at eq
      have item : (0 : Int) + ((((us.length : Int) - 0).toNat : Nat) : Int) - 1 + ((i : Nat) : Int) * (-1) = ((m : Nat) : Int) := by omega
      have hx : Ps[m]? = some Ps[m] := List.getElem?_eq_getElem mlt
      obtain ⟨v, hv, dv⟩ := dps_at hd hx
      generalize Ps[m] = x at hx dv
      have xm := List.mem_of_getElem? hx
      have tx := fit.things x xm
      obtain ⟨b1, b2, b3, b4⟩ := fit.bfs.at_ hx
      refine ⟨_, rfl, _, rfl, a, _, _, _, rfl, rfl, SqL.of (sm _ _ ha), (by rw [item]; exact atI_nat hv), ?_⟩
      have dv' := th_kt (kt_same sm) x v tx dv
      have dr : Ps.drop m = x :: Ps.drop (m + 1) := by
        rw [List.drop_eq_getElem_cons mlt]
        have := List.getElem?_eq_getElem mlt
        rw [hx] at this
        injection this with this
        rw [← this]
      rw [hm2]
      rcases th_cases tx dv' with ⟨c, rfl, rfl⟩ | ⟨b, c, zs, ps, rfl, rfl, hb, hzs, pne, _⟩
      · refine ⟨_, rfl, _, _, _, _, false, rfl, .ty "tuple", .base (.str _), kit_ty rfl, _, rfl, ite2 (fun z => absurd z (by decide)) (fun _ => ?_)⟩
        refine ⟨some (.int ((0 : Int) + ((((us.length : Int) - 0).toNat : Nat) : Int) - 1 + ((i : Nat) : Int) * (-1))), some (.str c), o5, o6, ?_, ?_, sm⟩
        · have e : endAt ts Ps (m + 1) = endAt ts Ps m := by
            unfold endAt
            rw [b2]
            rfl
          rw [hm, e]
          rfl
        · rw [eq]
          unfold half
          rw [List.take_add_one, hv, dr]
          simp [txt_str]
      · have zl := dps_len hzs
        have kn : kids (.tuple (.str c :: ps)) = ps := rfl
        rw [kn] at b1 b2 b3
        have bE : endAt ts Ps (m + 1) = endAt ts Ps m + ps.length := b2
        have e3 : endAt ts Ps m + ps.length ≤ Ps.length := b3
        have e4 : m < endAt ts Ps m := b4
        rw [hm, bE]
        refine ⟨_, rfl, _, _, _, _, true, rfl, .ty "tuple", sqT_ty' hb, kit_ty rfl, _, rfl, ite2 (fun _ => ?_) (fun z => absurd rfl z)⟩
        refine ⟨_, rfl, _, rfl, b, _, rfl, .inr hb, _, _, rfl, rfl, _, _, rfl, rfl, ?_⟩
        have bg : ((endAt ts Ps m + ps.length : Nat) : Int) - (((V.str c :: zs).length : Nat) : Int) + 1 = ((endAt ts Ps m : Nat) : Int) := by
          rw [List.length_cons]
          omega
        have parts : cutV (half us Ps (m + 1)) (some (((endAt ts Ps m + ps.length : Nat) : Int) - (((V.str c :: zs).length : Nat) : Int) + 1)) (some ((endAt ts Ps m + ps.length : Nat) : Int)) = (ps.map txt).map V.str := by
          rw [bg]
          unfold cutV
          have hl : (half us Ps (m + 1)).length = Ps.length := by
            unfold half
            rw [List.length_append, List.length_take, List.length_map, List.length_map, List.length_drop]
            omega
          rw [hl, HT.sIx_nat, HT.sIx_nat, Nat.min_eq_left (by omega), Nat.min_eq_left (by omega)]
          have e5 : endAt ts Ps m + ps.length - endAt ts Ps m = ps.length := by omega
          rw [e5]
          unfold half
          rw [List.drop_append, List.length_take, Nat.min_eq_left (by omega), List.drop_eq_nil_of_le (by rw [List.length_take]; omega), List.nil_append, ← List.map_drop, ← List.map_drop, List.drop_drop, ← List.map_take, ← List.map_take]
          have e6 : m + 1 + (endAt ts Ps m - (m + 1)) = endAt ts Ps m := by omega
          rw [e6]
          have b1' : List.take ps.length (List.drop (endAt ts Ps m) Ps) = ps := b1
          rw [b1']
        refine ⟨⟨_, rfl⟩, _, rfl, _, rfl, _, rfl, _, rfl, _, rfl, q, _, rfl, SqL.of eq, fun r hr => ?_⟩
        rw [parts]
        have tl1 := fit.long _ xm
        rw [txt_tup] at tl1
        have comma1 : (PySem.Str.ofString ",").length = 1 := by decide +kernel
        have o1 : (PySem.Str.ofString "(").length = 1 := by decide +kernel
        have o2 : (PySem.Str.ofString ")").length = 1 := by decide +kernel
        have o0 : Str.empty.length = 0 := by decide +kernel
        have jl := join_len (y := PySem.Str.ofString ",") (ps := ps.map txt) (by simpa using pne)
        rw [strLen_append, strLen_append, strLen_append, o1, o2] at tl1
        rw [comma1] at jl
        refine ⟨_, r, ps.map txt, rfl, rfl, .inl (SqL.of upd_same), by rw [comma1]; omega, ?_⟩
        have eqr : upd H' r (.lst ((ps.map txt).map V.str)) q = some (.lst (half us Ps (m + 1))) := (upd_ne (ne_of_none eq hr)).trans eq
        have ktr : KT K H' (upd H' r (.lst ((ps.map txt).map V.str))) := kt_new hr
        refine ⟨_, rfl, b, _, _, _, rfl, rfl, ktr _ _ hb, at0, .inl ⟨c, rfl, by omega, _, rfl, by rw [strLen_append]; omega, _, rfl, by rw [strLen_append, strLen_append]; omega, _, rfl, .inl ⟨_, rfl, by rw [join_eq]; omega, _, rfl, by rw [strLen_append, strLen_append, strLen_append, join_eq]; omega, _, rfl, by rw [strLen_append, strLen_append, strLen_append, strLen_append, join_eq]; omega, ?_⟩⟩⟩
        have tlx : half us Ps (m + 1) = us.take (m + 1) ++ ((Ps.drop (m + 1)).map txt).map V.str := rfl
        have hlen : m < (half us Ps (m + 1)).length := by
          rw [tlx, List.length_append, List.length_take]
          omega
        have ix : ixN (half us Ps (m + 1)).length ((0 : Int) + ((((us.length : Int) - 0).toNat : Nat) : Int) - 1 + ((i : Nat) : Int) * (-1)) = some m := by
          rw [item]
          unfold ixN
          rw [if_pos (by omega), if_pos (by omega), Int.toNat_natCast]
        refine ⟨_, rfl, _, rfl, q, _, _, m, rfl, rfl, eqr, ix, ?_⟩
        refine ⟨_, rfl, some (.int ((0 : Int) + ((((us.length : Int) - 0).toNat : Nat) : Int) - 1 + ((i : Nat) : Int) * (-1))), some (.ref b), some (.int (((endAt ts Ps m + ps.length : Nat) : Int) - (((V.str c :: zs).length : Nat) : Int) + 1)), some (.str (Txt.join (PySem.Str.ofString ",") (ps.map txt))), ?_, ?_, fun b1 o1' e1' => (upd_ne (ne_of_none e1' hq)).trans ((upd_ne (ne_of_none (sm _ _ e1') hr)).trans (sm _ _ e1'))⟩
        · rw [← bg]
          rfl
        · rw [upd_same, tlx, set_mid hv]
          unfold half
          rw [dr]
          have et : Str.empty ++ c ++ PySem.Str.ofString "(" ++ Txt.join (PySem.Str.ofString ",") (ps.map txt) ++ PySem.Str.ofString ")" = txt (.tuple (.str c :: ps)) := by
            rw [txt_tup, join_eq]
            refine ext_tl ?_
            have e : tl Str.empty = [] := by decide +kernel
            simp only [tl_append, e, List.nil_append]
          rw [et]
          rfl
    · rintro σ H' ⟨o3, o4, o5, o6, rfl, eq, sm⟩
      have z : us.length - ((us.length : Int) - 0).toNat = 0 := by omega
      rw [z] at eq
      refine ⟨_, rfl, k q H' sm hq ?_⟩
      rw [eq]
      unfold half
      simp
end
end K12

set_option Elab.async false
set_option linter.all false
set_option maxRecDepth 100000
set_option maxHeartbeats 4000000
/-! Things in the order of their texts. -/
namespace K12
open PySem PySem.Spec PyProof.Rows L2 Mine TL
theorem yes_if {σ : L2.St} {H : Hp} {A B : Hp → Prop} (h : A H) : tYes σ H (fun b H3 => if b = true then A H3 else B H3) := by
  unfold tYes
  show (if true = true then A H else B H)
  rw [if_pos rfl]
  exact h
abbrev sAscd : Stmt := top 17
/-- the things of P, each once, by their texts -/
structure AscOf (ds P : List PyData) : Prop where
  asc : (ds.map txt).Pairwise LtS
  mem : ∀ d, d ∈ ds ↔ d ∈ P
theorem ascOf_eq {ds es P Q : List PyData} (a : AscOf ds P) (b : AscOf es Q) (w : ∀ d ∈ P, thW d = true) (h : ∀ d, d ∈ P ↔ d ∈ Q) : ds = es := by
  have e : ds.map txt = es.map txt := asc_eq a.asc b.asc fun x => by
    rw [List.mem_map, List.mem_map]
    exact ⟨fun ⟨d, hd, e⟩ => ⟨d, (b.mem d).mpr ((h d).mp ((a.mem d).mp hd)), e⟩, fun ⟨d, hd, e⟩ => ⟨d, (a.mem d).mpr ((h d).mpr ((b.mem d).mp hd)), e⟩⟩
  have inj : ∀ {xs ys : List PyData}, (∀ d ∈ xs, thW d = true) → (∀ d ∈ ys, thW d = true) → xs.map txt = ys.map txt → xs = ys := fun {xs} => by
    induction xs with
    | nil =>
      intro ys _ _ e
      cases ys with
      | nil => rfl
      | cons y ys => cases e
    | cons x xs ih =>
      intro ys hx hy e
      cases ys with
      | nil => cases e
      | cons y ys =>
        rw [List.map_cons, List.map_cons] at e
        injection e with e1 e2
        rw [txt_inj (hx x (List.mem_cons_self ..)) (hy y (List.mem_cons_self ..)) e1, ih (fun d hd => hx d (List.mem_cons_of_mem _ hd)) (fun d hd => hy d (List.mem_cons_of_mem _ hd)) e2]
  exact inj (fun d hd => w d ((a.mem d).mp hd)) (fun d hd => w d ((h d).mpr ((b.mem d).mp hd))) e
def keyS : Key → Str
  | .inr x => x
  | .inl _ => Str.empty
structure TxtAs (mg : Str → Option Value) : Prop where
  dict : mg "dict" = none
  zip : mg "zip" = none
  tuple : mg "tuple" = none
  sorted : mg "sorted" = none
def spAscd (K : PySem.W.Frag) : Sp := fun vs H Q _ => ∃ (a b : Addr) (us : List V) (P : List PyData), vs = [.ref a, .ref b] ∧ SqL K H a us ∧ DpAll K H us P ∧ SqL K H b ((P.map txt).map V.str) ∧ (∀ p ∈ P, thW p = true) ∧ P.length ≤ 10000 ∧
  ∀ (q : Addr) (ws : List V) (ds : List PyData) (H' : Hp), Same H H' → H q = none → H' q = some (.tup ws) → DpAll K H' ws ds → AscOf ds P → Q (.ref q) H'
abbrev nAscd : List Str := ["things", "texts", "by_text", "text"]
theorem scAscd : FnScope nAscd ["things", "texts"] (defScope sAscd) := ⟨rfl, rfl, rfl, by decide +kernel, rfl, by decide +kernel, by decide +kernel⟩
theorem mem_zip_dp {K : PySem.W.Frag} {H : Hp} : ∀ {us : List V} {P : List PyData}, DpAll K H us P → ∀ p ∈ (P.map fun d => (Sum.inr (txt d) : Key)).zip us, ∃ d ∈ P, p.1 = Sum.inr (txt d) ∧ Dp K H p.2 d
  | _, _, .nil, p, hp => by simp at hp
  | _, _, .cons (v := v) (d := d) h r, p, hp => by
    rw [List.map_cons, List.zip_cons_cons] at hp
    rcases List.mem_cons.mp hp with rfl | hp
    · exact ⟨d, List.mem_cons_self .., rfl, h⟩
    · obtain ⟨d', hd', e⟩ := mem_zip_dp r p hp
      exact ⟨d', List.mem_cons_of_mem _ hd', e⟩
section
variable {P : Program} {w : World} {K : PySem.W.Frag} {mg : Str → Option Value} {base : Heap}
theorem ok_ascd {f : Addr} {fd : FuncData} (F : Fun K "ascending" "ascending" sAscd f fd) (T : TxtAs mg) : FnOk P w K mg base CX0 1 f fd ["things", "texts"] (spAscd K) := by
  refine F.ok scAscd (fun vs H Q E h => ?_) (fun cdv A outer s H vs Q E hr h => ?_)
  · obtain ⟨_, _, _, _, rfl, _⟩ := h
    rfl
  · obtain ⟨a, b, us, Ps, rfl, ha, hd, hb, hw, many, k⟩ := h
    have hu := hu_of hr
    refine ⟨_, pss_cons (ps_set (i := 2) scAscd.nd rfl (.inr rfl) (pe_dictZip rfl (by rfl) T.dict (by rfl) T.zip (pa_cons (pv 1) (pa_cons (pv 0) pa_nil))))
      (pss_one (ps_ret (pe_callTy call_tuple_of (by rfl) T.tuple (by decide +kernel) (pa_cons (pe_lc (own := [("text", 3)]) (g := gName 3) (tt := tYes) rfl scAscd.nd (pi_list (pe_callB (call_sortedDA rfl) (by rfl) T.sorted (by decide +kernel) (pa_cons (pv 2) pa_nil)))
        (blkOk_by (own := [("text", 3)]) (N := nAscd) (sc := defScope sAscd) (by decide +kernel))
        (fun _ _ _ _ _ => pg_name (i := 3) scAscd.nd rfl (Or.inl rfl)) (fun _ _ _ _ _ => pts_nil) (fun _ _ _ _ _ => pe_dget hu (pv 2) (pv 3) (fun _ _ => rfl))) pa_nil)))), ?_⟩
    have ul := dps_len hd
    have line : sizeLine = 16777216 := sizeLine_eq
    refine ⟨_, rfl, _, rfl, b, a, Ps.map fun d => (Sum.inr (txt d) : Key), us, rfl, ?_, ha, by rw [List.length_map]; exact ul.symm, fun q hq => ?_⟩
    · have e : (Ps.map fun d => (Sum.inr (txt d) : Key)).map kV = (Ps.map txt).map V.str := by
        rw [List.map_map, List.map_map]
        rfl
      rw [e]
      exact hb
    obtain ⟨nd, val, mem⟩ := merge_all (R := fun k v => ∃ d ∈ Ps, k = Sum.inr (txt d) ∧ Dp K H v d) (l := (Ps.map fun d => (Sum.inr (txt d) : Key)).zip us) (kvs := []) (by simp) (fun k v h => nomatch h) (mem_zip_dp hd)
    have memk : ∀ k, k ∈ (mergeK [] ((Ps.map fun d => (Sum.inr (txt d) : Key)).zip us)).map (·.1) ↔ ∃ d ∈ Ps, k = Sum.inr (txt d) := fun k => by
      rw [mem k, List.map_fst_zip (by rw [List.length_map]; omega)]
      simp only [List.map_nil, List.not_mem_nil, false_or, List.mem_map]
      exact ⟨fun ⟨d, hd, e⟩ => ⟨d, hd, e.symm⟩, fun ⟨d, hd, e⟩ => ⟨d, hd, e.symm⟩⟩
    have len := length_mergeK ((Ps.map fun d => (Sum.inr (txt d) : Key)).zip us) []
    rw [List.length_zip, List.length_map] at len
    generalize mergeK [] ((Ps.map fun d => (Sum.inr (txt d) : Key)).zip us) = kvs at nd val memk len
    have s1 : Same H (upd H q (.dK kvs)) := same_new same_rfl hq
    have eq1 : upd H q (.dK kvs) q = some (.dK kvs) := upd_same
    show Ends.nx _ _ (upd H q (.dK kvs))
    generalize upd H q (.dK kvs) = H1 at s1 eq1
    have keys : kvs.map (·.1) = (kvs.map fun kv => keyS kv.1).map (Sum.inr : Str → Key) := by
      rw [List.map_map]
      refine List.map_congr_left fun kv hkv => ?_
      obtain ⟨d, _, e⟩ := (memk kv.1).mp (List.mem_map_of_mem hkv)
      show kv.1 = Sum.inr (keyS kv.1)
      rw [e]
      rfl
    refine ⟨_, rfl, q, kvs, kvs.map fun kv => keyS kv.1, rfl, Rd.of eq1, keys, fun ys p perm srt hp => ?_⟩
    have s2 : Same H1 (upd H1 p (.lst (ys.map V.str))) := same_new same_rfl hp
    have ep : upd H1 p (.lst (ys.map V.str)) p = some (.lst (ys.map V.str)) := upd_same
    have eq2 := s2 _ _ eq1
    have yl : ys.length ≤ 10000 := by
      rw [perm.length_eq, List.length_map]
      simp only [List.length_nil] at len
      omega
    have ymem : ∀ y, y ∈ ys ↔ ∃ d ∈ Ps, txt d = y := fun y => by
      rw [perm.mem_iff]
      have z : y ∈ (kvs.map fun kv => keyS kv.1) ↔ (Sum.inr y : Key) ∈ kvs.map (·.1) := by
        rw [keys]
        simp
      rw [z, memk]
      exact ⟨fun ⟨d, hd, e⟩ => ⟨d, hd, (Sum.inr.inj e).symm⟩, fun ⟨d, hd, e⟩ => ⟨d, hd, by rw [e]⟩⟩
    have ynd : ys.Nodup := by
      rw [perm.nodup_iff]
      have : ((kvs.map fun kv => keyS kv.1).map (Sum.inr : Str → Key)).Nodup := by rw [← keys]; exact nd
      exact List.Pairwise.of_map (S := (· ≠ ·)) _ (fun a b h e => h (by rw [e])) this
    refine ⟨p, rfl, ⟨_, SqL.of ep⟩, fun D hD => ?_⟩
    have s3 : Same H (upd H1 p (.lst (ys.map V.str))) := same_tr s1 s2
    generalize upd H1 p (.lst (ys.map V.str)) = H2 at s2 ep eq2 s3 hD
    refine lc_list (K := K) (a := p) (xs := ys.map V.str) (fun i H' => ∃ (ws : List V) (ds : List PyData), H' D = some (.lst ws) ∧ DpAll K H' ws ds ∧ ds.map txt = ys.take i ∧ (∀ d ∈ ds, d ∈ Ps) ∧ Same H2 H')
      ⟨[], [], upd_same, .nil, by simp, fun _ z => (List.not_mem_nil z).elim, same_new same_rfl hD⟩ (fun i H' _ ⟨_, _, _, _, _, _, z⟩ => SqL.of (z _ _ ep)) ?_ ?_
    · rintro i y H' hi ⟨ws, ds, eD, dp, et, dm, sm⟩
      rw [List.getElem?_map] at hi
      obtain ⟨x, hx, rfl⟩ := Option.map_eq_some_iff.mp hi
      obtain ⟨d0, hd0, e0⟩ := (ymem x).mp (List.mem_of_getElem? hx)
      have ik : (Sum.inr x : Key) ∈ kvs.map (·.1) := (memk _).mpr ⟨d0, hd0, by rw [e0]⟩
      obtain ⟨v, hv⟩ := val_some ik
      obtain ⟨d, hdP, ed, dv⟩ := val _ _ hv
      have ed' : txt d = x := (Sum.inr.inj ed).symm
      refine ⟨rfl, ?_⟩
      refine yes_if ?_
      have wl : ws.length = i := by
        rw [dps_len dp]
        have := congrArg List.length et
        rw [List.length_map, List.length_take] at this
        have : i < ys.length := (List.getElem?_eq_some_iff.mp hx).1
        omega
      have il : i < ys.length := (List.getElem?_eq_some_iff.mp hx).1
      refine ⟨_, rfl, _, rfl, q, v, rfl, .inl ⟨kvs, Sum.inr x, Rd.of (sm _ _ eq2), rfl, hv.symm⟩, ws, eD, by omega, ws ++ [v], ds ++ [d], upd_same, ?_, ?_, ?_, fun b1 o1 e1 => (upd_ne (ne_of_none e1 hD)).trans (sm _ _ e1)⟩
      · have kt1 : KT K H' (upd H' D (.lst (ws ++ [v]))) := kt_lst eD
        have thd : ∀ z ∈ Ps, thing z = true := fun z hz => thW_thing _ z (Nat.le_refl _) (hw z hz)
        exact dps_app (ths_kt kt1 ds ws (thingAll_iff.mpr fun z hz => thd z (dm z hz)) dp) (.cons (th_kt (kt_same (same_tr s3 sm)) d v (thd d hdP) dv |> th_kt kt1 d v (thd d hdP)) .nil)
      · rw [List.map_append, et, List.take_add_one, hx, List.map_cons, ed']
        rfl
      · intro z hz
        rcases List.mem_append.mp hz with hz | hz
        · exact dm z hz
        · rw [List.mem_singleton.mp hz]
          exact hdP
    · rintro H' ⟨ws, ds, eD, dp, et, dm, sm⟩
      rw [List.length_map, List.take_of_length_le (Nat.le_refl _)] at et
      refine ⟨D, _, rfl, .inl ⟨SqL.of eD, fun t ht => ?_⟩⟩
      have thd : ∀ z ∈ Ps, thing z = true := fun z hz => thW_thing _ z (Nat.le_refl _) (hw z hz)
      refine k t ws ds _ (same_new (same_tr s3 sm) ht) ?_ upd_same (ths_kt (kt_new ht) ds ws (thingAll_iff.mpr fun z hz => thd z (dm z hz)) dp) ⟨by rw [et]; exact asc_sorted srt ynd, fun d => ⟨dm d, fun hd1 => ?_⟩⟩
      · cases e : H t with
        | none => rfl
        | some o =>
          have := same_tr s3 sm _ _ e
          rw [ht] at this
          cases this
      · have : txt d ∈ ds.map txt := by
          rw [et]
          exact (ymem _).mpr ⟨d, hd1, rfl⟩
        obtain ⟨d', hd', e'⟩ := List.mem_map.mp this
        rw [← txt_inj (hw d' (dm d' hd')) (hw d hd1) e']
        exact hd'
end
end K12

set_option Elab.async false
set_option linter.all false
set_option maxRecDepth 100000
set_option maxHeartbeats 4000000
/-! Words and names, of any text or other value. -/
namespace K12
open PySem PySem.Spec PyProof.Rows L2 Mine TL
def ABCR : Str := PySem.Str.ofString "abcdefghijklmnopqrstuvwxyz"
def CAP : Str := PySem.Str.ofString "ABCDEFGHIJKLMNOPQRSTUVWXYZ"
def DIG : Str := PySem.Str.ofString "0123456789"
def inS (S : Str) (c : Nat) : Bool := decide (c ∈ S.cps.toList)
def shortS (x : Str) : Bool := decide (1 ≤ x.length) && decide (x.length ≤ 8)
def isW (x : Str) : Bool := shortS x && x.cps.toList.all (inS ABCR)
def isN (x : Str) : Bool := shortS x && (match x.cps.toList with
  | c :: r => inS CAP c && r.all fun d => inS ABCR d || inS DIG d
  | [] => false)
abbrev sWordR : Stmt := top 13
abbrev sName : Stmt := top 14
structure TxtWd (mg : Str → Option Value) : Prop where
  isi : mg "isinstance" = none
  str : mg "str" = none
  len : mg "len" = none
  all : mg "all" = none
  longest : ∃ u, mg "LONGEST" = some u ∧ RelV (.int 8) u
  letters : ∃ u, mg "LETTERS" = some u ∧ RelV (.str ABCR) u
  capitals : ∃ u, mg "CAPITALS" = some u ∧ RelV (.str CAP) u
  digits : ∃ u, mg "DIGITS" = some u ∧ RelV (.str DIG) u
/-- asked of a text, or of what is none -/
def spIs (K : PySem.W.Frag) (f : Str → Bool) : Sp := fun vs H Q _ => ∃ v, vs = [v] ∧ ((∃ x, v = .str x ∧ x.length ≤ sizeLine ∧ ∀ H', Same H H' → Q (.bl (f x)) H') ∨ ((∃ t, TyX K H v t ∧ PySem.W.kitOne K t (.type "str") = some false) ∧ ∀ H', Same H H' → Q (.bl false) H'))
theorem bools_snoc {f : Nat → Bool} {l : List Nat} {i c : Nat} (h : l[i]? = some c) : ((l.take (i + 1)).map f).map V.bl = ((l.take i).map f).map V.bl ++ [V.bl (f c)] := by
  rw [List.take_add_one, h]
  simp
theorem bools_all (f : Nat → Bool) (l : List Nat) : (l.map f).all id = l.all f := by
  rw [List.all_map]
  rfl
section
variable {P : Program} {w : World} {K : PySem.W.Frag} {mg : Str → Option Value} {base : Heap}
theorem scWordR : FnScope ["thing", "sign"] ["thing"] (defScope sWordR) := ⟨rfl, rfl, rfl, by decide +kernel, rfl, by decide +kernel, by decide +kernel⟩
theorem ok_wordR {f : Addr} {fd : FuncData} (F : Fun K "is_word" "is_word" sWordR f fd) (T : TxtWd mg) : FnOk P w K mg base CX0 1 f fd ["thing"] (spIs K isW) := by
  refine F.ok scWordR (fun vs H Q E h => ?_) (fun cdv A outer s H vs Q E hr h => ?_)
  · obtain ⟨x, rfl, _⟩ := h
    rfl
  · obtain ⟨v, rfl, h⟩ := h
    refine ⟨_, pss_cons (ps_if (PW.pt (pw_or (pt_not (pt_val (pe_callB call_isi (by rfl) T.isi (by decide +kernel) (pa_cons (pv 0) (pa_cons (pe_bltn (v := .ty "str") rfl T.str (by decide +kernel) rfl) pa_nil)))))
        (pw_or1 (pt_not (pt_chain op_le op_le pe_int (pe_callB call_len_str (by rfl) T.len PySem.boot_len (pa_cons (pv 0) pa_nil)) (C8.pe_gc (v := .int 8) rfl T.longest)))))) (pss_one (ps_ret pe_bl)) pss_nil)
      (pss_one (ps_ret (pe_callB (cr_all rfl) (by rfl) T.all (by decide +kernel) (pa_cons (pe_lc (own := [("sign", 1)]) (g := gName 1) (tt := tYes) rfl scWordR.nd (pi_str (pv 0))
        (blkOk_by (own := [("sign", 1)]) (N := ["thing", "sign"]) (sc := defScope sWordR) (by decide +kernel))
        (fun _ _ _ _ _ => pg_name (i := 1) scWordR.nd rfl (Or.inl rfl)) (fun _ _ _ _ _ => pts_nil) (fun _ _ _ _ _ => pe_cmpR op_in_sign (pv 1) (C8.pe_gc (v := .str ABCR) (by rfl) T.letters) (by with_unfolding_all rfl))) pa_nil)))), ?_⟩
    rcases h with ⟨x, rfl, sz, k⟩ | ⟨⟨t, ty, kt⟩, k⟩
    · refine ⟨_, rfl, _, _, _, _, true, rfl, .ty "str", .base (.str x), kit_ty rfl, _, rfl, ite2 (fun z => absurd z (by decide)) (fun _ => ?_)⟩
      refine ⟨_, rfl, x, rfl, sz, _, _, rfl, rfl, _, rfl, ite2 (fun h1 => ?_) (fun h1 => ?_)⟩
      · refine ⟨_, _, rfl, rfl, _, rfl, ite2 (fun z => ?_) (fun z => ?_)⟩
        · have e : isW x = false := by
            unfold isW shortS
            have z' : (!decide ((x.length : Int) ≤ 8)) = true := z
            have : ¬ x.length ≤ 8 := fun q => by
              rw [decide_eq_true (show (x.length : Int) ≤ 8 by omega)] at z'
              cases z'
            rw [decide_eq_false this, Bool.and_false, Bool.false_and]
          have := k H same_rfl
          rw [e] at this
          exact this
        · have l8 : x.length ≤ 8 := by
            have z' : ¬ (!decide ((x.length : Int) ≤ 8)) = true := z
            have : decide ((x.length : Int) ≤ 8) = true := by
              cases q : decide ((x.length : Int) ≤ 8) with
              | true => rfl
              | false => rw [q] at z'; exact absurd rfl z'
            have := of_decide_eq_true this
            omega
          have l1 : 1 ≤ x.length := by
            have := of_decide_eq_true h1
            omega
          refine ⟨_, rfl, x, rfl, fun D hD => ?_⟩
          refine lc_it walk_str (fun i H' => H' = upd H D (.lst (((x.cps.toList.take i).map (inS ABCR)).map V.bl))) rfl (fun _ _ _ _ => trivial) ?_ ?_
          · rintro i y H1 H2 hi rfl ⟨rfl, c, hc, rfl⟩
            have hc' : x.cps.toList[i]? = some c := by rw [Array.getElem?_toList]; exact hc
            refine ⟨rfl, ?_⟩
            refine yes_if ?_
            refine ⟨_, rfl, c, _, rfl, rfl, _, upd_same, ?_, ?_⟩
            · have hs : x.cps.size = x.length := rfl
              rw [List.length_map, List.length_map, List.length_take, sizeLine_eq]
              omega
            · rw [upd_upd, bools_snoc hc']
              rfl
          · rintro H1 rfl
            refine ⟨D, _, rfl, SqL.of upd_same, ?_⟩
            rw [List.take_of_length_le (by simp), bools_all]
            have e : isW x = x.cps.toList.all (inS ABCR) := by
              unfold isW shortS
              rw [decide_eq_true l1, decide_eq_true l8]
              rfl
            rw [← e]
            exact k _ (same_new same_rfl hD)
      · have e : isW x = false := by
          unfold isW shortS
          have : ¬ 1 ≤ x.length := fun q => h1 (decide_eq_true (by omega))
          rw [decide_eq_false this, Bool.false_and, Bool.false_and]
        refine ⟨_, rfl, ite2 (fun _ => ?_) (fun z => absurd rfl z)⟩
        have := k H same_rfl
        rw [e] at this
        exact this
    · exact ⟨_, rfl, _, _, _, _, false, rfl, .ty "str", ty, kt, _, rfl, ite2 (fun _ => k H same_rfl) (fun z => absurd rfl z)⟩
theorem scName : FnScope ["thing", "sign"] ["thing"] (defScope sName) := ⟨rfl, rfl, rfl, by decide +kernel, rfl, by decide +kernel, by decide +kernel⟩
theorem ok_name {f : Addr} {fd : FuncData} (F : Fun K "is_name" "is_name" sName f fd) (T : TxtWd mg) : FnOk P w K mg base CX0 1 f fd ["thing"] (spIs K isN) := by
  refine F.ok scName (fun vs H Q E h => ?_) (fun cdv A outer s H vs Q E hr h => ?_)
  · obtain ⟨x, rfl, _⟩ := h
    rfl
  · obtain ⟨v, rfl, h⟩ := h
    refine ⟨_, pss_cons (ps_if (PW.pt (pw_or (pt_not (pt_val (pe_callB call_isi (by rfl) T.isi (by decide +kernel) (pa_cons (pv 0) (pa_cons (pe_bltn (v := .ty "str") rfl T.str (by decide +kernel) rfl) pa_nil)))))
        (pw_or1 (pt_not (pt_chain op_le op_le pe_int (pe_callB call_len_str (by rfl) T.len PySem.boot_len (pa_cons (pv 0) pa_nil)) (C8.pe_gc (v := .int 8) rfl T.longest)))))) (pss_one (ps_ret pe_bl)) pss_nil)
      (pss_one (ps_ret (pe_and (pe_cmpR op_in_sign (pe_ix ix_str (pv 0) pe_int (fun _ _ => rfl)) (C8.pe_gc (v := .str CAP) (by rfl) T.capitals) (by with_unfolding_all rfl))
        (pe_one (pe_callB (cr_all rfl) (by rfl) T.all (by decide +kernel) (pa_cons (pe_lc (own := [("sign", 1)]) (g := gName 1) (tt := tYes) rfl scName.nd (pi_str (pe_slice sl_str (pv 0) (po_some pe_int) po_none))
        (blkOk_by (own := [("sign", 1)]) (N := ["thing", "sign"]) (sc := defScope sName) (by decide +kernel))
        (fun _ _ _ _ _ => pg_name (i := 1) scName.nd rfl (Or.inl rfl)) (fun _ _ _ _ _ => pts_nil) (fun _ _ _ _ _ => pe_or (pe_cmpR op_in_sign (pv 1) (C8.pe_gc (v := .str ABCR) (by rfl) T.letters) (by with_unfolding_all rfl))
          (pe_one (pe_cmpR op_in_sign (pv 1) (C8.pe_gc (v := .str DIG) (by rfl) T.digits) (by with_unfolding_all rfl))))) pa_nil)))))), ?_⟩
    rcases h with ⟨x, rfl, sz, k⟩ | ⟨⟨t, ty, kt⟩, k⟩
    · refine ⟨_, rfl, _, _, _, _, true, rfl, .ty "str", .base (.str x), kit_ty rfl, _, rfl, ite2 (fun z => absurd z (by decide)) (fun _ => ?_)⟩
      refine ⟨_, rfl, x, rfl, sz, _, _, rfl, rfl, _, rfl, ite2 (fun h1 => ?_) (fun h1 => ?_)⟩
      · refine ⟨_, _, rfl, rfl, _, rfl, ite2 (fun z => ?_) (fun z => ?_)⟩
        · have e : isN x = false := by
            unfold isN shortS
            have z' : (!decide ((x.length : Int) ≤ 8)) = true := z
            have : ¬ x.length ≤ 8 := fun q => by
              rw [decide_eq_true (show (x.length : Int) ≤ 8 by omega)] at z'
              cases z'
            rw [decide_eq_false this, Bool.and_false, Bool.false_and]
          have := k H same_rfl
          rw [e] at this
          exact this
        · have l8 : x.length ≤ 8 := by
            have z' : ¬ (!decide ((x.length : Int) ≤ 8)) = true := z
            have : decide ((x.length : Int) ≤ 8) = true := by
              cases q : decide ((x.length : Int) ≤ 8) with
              | true => rfl
              | false => rw [q] at z'; exact absurd rfl z'
            have := of_decide_eq_true this
            omega
          have l1 : 1 ≤ x.length := by
            have := of_decide_eq_true h1
            omega
          have xl : x.cps.toList.length = x.length := by simp [Str.length]
          obtain ⟨c0, r0, hx⟩ : ∃ c0 r0, x.cps.toList = c0 :: r0 := by
            cases q : x.cps.toList with
            | nil => rw [q] at xl; simp at xl; omega
            | cons c0 r0 => exact ⟨c0, r0, rfl⟩
          have e : isN x = (inS CAP c0 && r0.all fun d => inS ABCR d || inS DIG d) := by
            unfold isN shortS
            rw [decide_eq_true l1, decide_eq_true l8, hx]
            rfl
          refine ⟨_, rfl, x, 0, c0, rfl, rfl, sz, (by rw [hx]; exact at0), c0, CAP, rfl, rfl, _, rfl, ite2 (fun hc => ?_) (fun hc => ?_)⟩
          · have hc' : inS CAP c0 = true := hc
            rw [hc', Bool.true_and] at e
            have ct : (cutS x (some 1) none).cps.toList = r0 := by
              show (((x.cps.toList.drop (HT.sIx x.length 0 (some 1))).take (HT.sIx x.length x.length none - HT.sIx x.length 0 (some 1))).toArray).toList = _
              have e1 : HT.sIx x.length 0 (some 1) = 1 := by
                have := HT.sIx_nat x.length 0 1
                rw [Nat.min_eq_left l1] at this
                exact this
              rw [e1, HT.sIx_none, hx, List.toList_toArray, List.drop_succ_cons, List.drop_zero, List.take_of_length_le]
              rw [hx] at xl
              rw [← xl]
              simp
            refine ⟨_, rfl, _, rfl, x, rfl, sz, cutS x (some 1) none, rfl, fun D hD => ?_⟩
            refine lc_it walk_str (fun i H' => H' = upd H D (.lst (((r0.take i).map fun d => inS ABCR d || inS DIG d).map V.bl))) rfl (fun _ _ _ _ => trivial) ?_ ?_
            · rintro i y H1 H2 hi rfl ⟨rfl, c, hc1, rfl⟩
              have hc2 : r0[i]? = some c := by rw [← ct, Array.getElem?_toList]; exact hc1
              refine ⟨rfl, ?_⟩
              refine yes_if ?_
              have fin : ∃ acc, upd H D (.lst (((r0.take i).map fun d => inS ABCR d || inS DIG d).map V.bl)) D = some (.lst acc) ∧ acc.length < sizeLine ∧
                  upd (upd H D (.lst (((r0.take i).map fun d => inS ABCR d || inS DIG d).map V.bl))) D (.lst (acc ++ [V.bl (inS ABCR c || inS DIG c)])) = upd H D (.lst (((r0.take (i + 1)).map fun d => inS ABCR d || inS DIG d).map V.bl)) := by
                refine ⟨_, upd_same, ?_, ?_⟩
                · have : r0.length + 1 = x.length := by rw [← xl, hx]; rfl
                  rw [List.length_map, List.length_map, List.length_take, sizeLine_eq]
                  omega
                · rw [upd_upd, bools_snoc hc2]
              refine ⟨_, rfl, c, ABCR, rfl, rfl, _, rfl, ite2 (fun ha => ?_) (fun ha => ?_)⟩
              · have ha' : inS ABCR c = true := ha
                rw [ha', Bool.true_or] at fin
                exact fin
              · have ha' : inS ABCR c = false := by
                  cases q : inS ABCR c with
                  | false => rfl
                  | true => exact absurd q ha
                rw [ha', Bool.false_or] at fin
                exact ⟨_, rfl, c, DIG, rfl, rfl, fin⟩
            · rintro H1 rfl
              have sz' : (cutS x (some 1) none).cps.size = r0.length := by rw [← ct, Array.length_toList]
              refine ⟨D, _, rfl, SqL.of upd_same, ?_⟩
              rw [sz', List.take_of_length_le (Nat.le_refl _), bools_all, ← e]
              exact k _ (same_new same_rfl hD)
          · have hc' : inS CAP c0 = false := by
              cases q : inS CAP c0 with
              | false => rfl
              | true => exact absurd q hc
            rw [hc', Bool.false_and] at e
            have := k H same_rfl
            rw [e] at this
            exact this
      · have e : isN x = false := by
          unfold isN shortS
          have : ¬ 1 ≤ x.length := fun q => h1 (decide_eq_true (by omega))
          rw [decide_eq_false this, Bool.false_and, Bool.false_and]
        refine ⟨_, rfl, ite2 (fun _ => ?_) (fun z => absurd rfl z)⟩
        have := k H same_rfl
        rw [e] at this
        exact this
    · exact ⟨_, rfl, _, _, _, _, false, rfl, .ty "str", ty, kt, _, rfl, ite2 (fun _ => k H same_rfl) (fun z => absurd rfl z)⟩
end
end K12

set_option Elab.async false
set_option linter.all false
set_option maxRecDepth 100000
set_option maxHeartbeats 4000000
/-! Text, size, pieces, names and words of a thing; other things in it. -/
namespace K12
open PySem PySem.Spec PyProof.Rows L2 Mine TL StX
/-- a thing of a moderate size -/
structure Small (d : PyData) : Prop where
  w : thW d = true
  sz : sz d ≤ 4000
  len : (txt d).length ≤ 1000000
theorem Small.thing {d : PyData} (h : Small d) : thing d = true := thW_thing _ d (Nat.le_refl _) h.w
theorem one_lot (d : PyData) : [d].flatMap lot = lot d := by simp
theorem Small.fits {d : PyData} (h : Small d) {Q : List PyData} (b : Bfs [d] Q) : Fits [d] Q := by
  have mem : ∀ p ∈ Q, p ∈ lot d := fun p hp => by
    have := b.perm.mem_iff.mp hp
    rwa [one_lot] at this
  refine ⟨b, fun p hp => lot_thing _ d (Nat.le_refl _) h.thing p (mem p hp), ?_, fun p hp => Nat.le_trans (lot_len _ d (Nat.le_refl _) h.thing p (mem p hp)) h.len⟩
  rw [b.len, one_lot]
  exact Nat.le_trans h.sz (by decide)
theorem bfs_head {d : PyData} {Q : List PyData} (b : Bfs [d] Q) : ∃ R, Q = d :: R := ⟨Q.flatMap kids, b.eq⟩
structure TxtOf (K : PySem.W.Frag) (mg : Str → Option Value) (fP fT : Addr) : Prop where
  gP : mg "all_pieces" = some (.ref fP)
  kP : PySem.W.keepIn K (.ref fP) = true
  gT : mg "all_texts" = some (.ref fT)
  kT : PySem.W.keepIn K (.ref fT) = true
  len : mg "len" = none
def spTextOf (K : PySem.W.Frag) : Sp := fun vs H Q _ => ∃ v d, vs = [v] ∧ Dp K H v d ∧ Small d ∧ ∀ H', Same H H' → Q (.str (txt d)) H'
def spSizeOf (K : PySem.W.Frag) : Sp := fun vs H Q _ => ∃ v d, vs = [v] ∧ Dp K H v d ∧ Small d ∧ ∀ H', Same H H' → Q (.int (sz d : Nat)) H'
def spPiecesOf (K : PySem.W.Frag) : Sp := fun vs H Q _ => ∃ v d, vs = [v] ∧ Dp K H v d ∧ Small d ∧
  ∀ (q : Addr) (ws : List V) (ds : List PyData) (H' : Hp), Same H H' → H q = none → H' q = some (.tup ws) → DpAll K H' ws ds → AscOf ds (lot d) → Q (.ref q) H'
section
variable {P : Program} {w : World} {K : PySem.W.Frag} {mg : Str → Option Value} {base : Heap}
theorem none_same {H H' : Hp} {q : Addr} (s : Same H H') (h : H' q = none) : H q = none := by
  cases e : H q with
  | none => rfl
  | some o =>
    have := s _ _ e
    rw [h] at this
    cases this
end
end K12

set_option Elab.async false
set_option linter.all false
set_option maxRecDepth 100000
set_option maxHeartbeats 4000000
/-! Names and words of a thing. -/
namespace K12
open PySem PySem.Spec PyProof.Rows L2 Mine TL
/-- those of the texts that stand in d and are so -/
structure Those (f : Str → Bool) (d : PyData) (ys : List Str) : Prop where
  asc : ys.Pairwise LtS
  mem : ∀ x, x ∈ ys ↔ PyData.str x ∈ lot d ∧ f x = true
def spThose (K : PySem.W.Frag) (f : Str → Bool) : Sp := fun vs H Q _ => ∃ v d, vs = [v] ∧ Dp K H v d ∧ Small d ∧ ∀ (q : Addr) (ys : List Str) (H' : Hp), Same H H' → H q = none → H' q = some (.tup (ys.map V.str)) → Those f d ys → Q (.ref q) H'
end K12

set_option Elab.async false
set_option linter.all false
set_option maxRecDepth 100000
set_option maxHeartbeats 4000000
/-! Things in the places of names. -/
namespace K12
open PySem PySem.Spec PyProof.Rows L2 Mine TL StX
/-- what a table tells of texts -/
def Tells (K : PySem.W.Frag) (H : Hp) (kvs : List (Key × V)) (g : Str → PyData) : Prop := ∀ x, (valV kvs (Sum.inr x) = none ∧ g x = .str x) ∨ ∃ v, valV kvs (Sum.inr x) = some v ∧ Dp K H v (g x)
def spExch (K : PySem.W.Frag) : Sp := fun vs H Q _ => ∃ (v : V) (d : PyData) (o : Addr) (kvs : List (Key × V)) (g : Str → PyData), vs = [v, .ref o] ∧ Dp K H v d ∧ Small d ∧ H o = some (.dK kvs) ∧ Tells K H kvs g ∧ (∀ x, thing (g x) = true) ∧
  ∀ (u : V) (H' : Hp), Same H H' → Dp K H' u (put g d) → Q u H'
structure TxtEx (K : PySem.W.Frag) (mg : Str → Option Value) (fP : Addr) : Prop extends TxtTx mg where
  gP : mg "all_pieces" = some (.ref fP)
  kP : PySem.W.keepIn K (.ref fP) = true
abbrev nExch : List Str := ["thing", "others", "pieces", "made", "end", "at", "piece", "begin"]
theorem dps_drop {K : PySem.W.Frag} {H : Hp} : ∀ {vs : List V} {ds : List PyData} (n : Nat), DpAll K H vs ds → DpAll K H (vs.drop n) (ds.drop n)
  | _, _, 0, h => by rw [List.drop_zero, List.drop_zero]; exact h
  | _, _, n + 1, .nil => by rw [List.drop_nil, List.drop_nil]; exact .nil
  | _, _, n + 1, .cons _ r => by rw [List.drop_succ_cons, List.drop_succ_cons]; exact dps_drop n r
theorem dps_take {K : PySem.W.Frag} {H : Hp} : ∀ {vs : List V} {ds : List PyData} (n : Nat), DpAll K H vs ds → DpAll K H (vs.take n) (ds.take n)
  | _, _, 0, _ => by rw [List.take_zero, List.take_zero]; exact .nil
  | _, _, n + 1, .nil => by rw [List.take_nil, List.take_nil]; exact .nil
  | _, _, n + 1, .cons h r => by rw [List.take_succ_cons, List.take_succ_cons]; exact .cons h (dps_take n r)
section
variable {P : Program} {w : World} {K : PySem.W.Frag} {mg : Str → Option Value} {base : Heap}
end
end K12

set_option Elab.async false
set_option linter.all false
set_option maxRecDepth 100000
set_option maxHeartbeats 4000000
/-! A name replaced; words and names as the law sees them. -/
namespace K12
open PySem PySem.Spec PyProof.Rows L2 Mine TL
/-- e in the place of n -/
def subst (n : Str) (e : PyData) (x : Str) : PyData := if x = n then e else .str x
theorem subst_thing {n : Str} {e : PyData} (h : thing e = true) (x : Str) : thing (subst n e x) = true := by
  unfold subst
  split
  · exact h
  · simp [thing]
section
variable {P : Program} {w : World} {K : PySem.W.Frag} {mg : Str → Option Value} {base : Heap}
def btw (a b c : Nat) : Bool := decide (a ≤ c) && decide (c ≤ b)
theorem abc_btw (c : Nat) : inS ABCR c = btw 97 122 c := by
  have e : ABCR.cps.toList = List.range' 97 26 := by decide +kernel
  unfold inS btw
  rw [e, ← Bool.decide_and, decide_eq_decide, List.mem_range'_1]
  omega
theorem cap_btw (c : Nat) : inS CAP c = btw 65 90 c := by
  have e : CAP.cps.toList = List.range' 65 26 := by decide +kernel
  unfold inS btw
  rw [e, ← Bool.decide_and, decide_eq_decide, List.mem_range'_1]
  omega
theorem dig_btw (c : Nat) : inS DIG c = btw 48 57 c := by
  have e : DIG.cps.toList = List.range' 48 10 := by decide +kernel
  unfold inS btw
  rw [e, ← Bool.decide_and, decide_eq_decide, List.mem_range'_1]
  omega
def sgn (c : Nat) : Str := ⟨#[c]⟩
theorem sgn_lt (a b : Nat) : decide ((sgn a).cps.toList < (sgn b).cps.toList) = decide (a < b) := by
  show decide ([a] < [b]) = decide (a < b)
  rw [StrLaws.lt_cons_cons, StrLaws.lt_nil_nil, Bool.and_false, Bool.or_false]
theorem le_sgn {a c : Nat} {s : String} (h : PySem.Str.ofString s = sgn a) : (!decide ((sgn c).cps.toList < (PySem.Str.ofString s).cps.toList)) = decide (a ≤ c) := by
  rw [h, sgn_lt]
  by_cases z : c < a
  · rw [decide_eq_true z, decide_eq_false (by omega)]; rfl
  · rw [decide_eq_false z, decide_eq_true (by omega)]; rfl
theorem ge_sgn {b c : Nat} {s : String} (h : PySem.Str.ofString s = sgn b) : (!decide ((PySem.Str.ofString s).cps.toList < (sgn c).cps.toList)) = decide (c ≤ b) := by
  rw [h, sgn_lt]
  by_cases z : b < c
  · rw [decide_eq_true z, decide_eq_false (by omega)]; rfl
  · rw [decide_eq_false z, decide_eq_true (by omega)]; rfl
theorem kept_snoc {f : Nat → Bool} {l : List Nat} {i c : Nat} (h : l[i]? = some c) : (l.take (i + 1)).filter f = if f c = true then (l.take i).filter f ++ [c] else (l.take i).filter f := by
  rw [List.take_add_one, h, List.filter_append]
  cases e : f c <;> simp [e]
theorem sgns_dp {K : PySem.W.Frag} {H : Hp} (l : List Nat) : DpAll K H (l.map fun c => V.str (sgn c)) (l.map fun c => PyData.str (sgn c)) := by
  induction l with
  | nil => exact .nil
  | cons c l ih => exact .cons (.str _) ih
theorem sgns_shaped {l : List Nat} (h : ∀ c ∈ l, c < 0x110000) : SeqAt.shaped (.list (l.map fun c => PyData.str (sgn c))) = true := by
  have a : PyData.canLayAll0 (l.map fun c => PyData.str (sgn c)) = true ∧ PyData.depthAll (l.map fun c => PyData.str (sgn c)) = 0 := by
    induction l with
    | nil => simp [PyData.canLayAll0, PyData.depthAll]
    | cons c l ih =>
      obtain ⟨i1, i2⟩ := ih fun d hd => h d (List.mem_cons_of_mem _ hd)
      have e : PyData.strOk (sgn c) = true := by
        unfold PyData.strOk sgn
        simp [h c (List.mem_cons_self ..)]
      refine ⟨by simp only [List.map_cons, PyData.canLayAll0, PyData.canLay0, e, i1]; rfl, ?_⟩
      simp only [List.map_cons, PyData.depthAll, PyData.depth, i2]
      rfl
  show (PyData.canLay0 _ && decide (PyData.depth _ ≤ 64)) = true
  simp only [PyData.canLay0, PyData.depth, a.1, a.2]
  rfl
theorem none_left (f : Nat → Bool) (l : List Nat) : PyData.eqv (.list ((l.filter fun c => !f c).map fun c => PyData.str (sgn c))) (.list []) = l.all f := by
  have e : ∀ ds : List PyData, PyData.eqv (.list ds) (.list []) = ds.isEmpty := fun ds => by cases ds <;> simp [PyData.eqv, PyData.eqvAll]
  rw [e]
  induction l with
  | nil => rfl
  | cons c l ih =>
    rw [List.filter_cons, List.all_cons]
    cases h : f c with
    | true => simpa using ih
    | false => simp
def spLIs (f : Str → Bool) : Sp := fun vs H Q _ => ∃ x, vs = [.str x] ∧ x.length ≤ sizeLine ∧ (∀ c ∈ x.cps.toList, c < 0x110000) ∧ ∀ H', Same H H' → Q (.bl (f x)) H'
structure TxtLI (mg : Str → Option Value) : Prop where
  isi : mg "isinstance" = none
  str : mg "str" = none
  len : mg "len" = none
end
end K12

set_option Elab.async false
set_option linter.all false
set_option maxRecDepth 100000
set_option maxHeartbeats 4000000
/-! Names as the law sees them. -/
namespace K12
open PySem PySem.Spec PyProof.Rows L2 Mine TL
theorem sgn_le {a c : Nat} {s : String} (h : PySem.Str.ofString s = sgn a) : (¬ (!decide ((sgn c).cps.toList < (PySem.Str.ofString s).cps.toList)) = true) → decide (a ≤ c) = false := fun q => by
  rw [← le_sgn (c := c) h]
  cases z : (!decide ((sgn c).cps.toList < (PySem.Str.ofString s).cps.toList)) with
  | false => rfl
  | true => exact absurd z q
section
variable {P : Program} {w : World} {K : PySem.W.Frag} {mg : Str → Option Value} {base : Heap}
end
end K12

set_option Elab.async false
set_option linter.all false
set_option maxRecDepth 100000
set_option maxHeartbeats 4000000
/-! The law's own text of a thing. -/
namespace K12
open PySem PySem.Spec PyProof.Rows L2 Mine TL
def spLText (K : PySem.W.Frag) (n : Nat) : Sp := fun vs H Q _ => ∃ v d, vs = [v] ∧ Dp K H v d ∧ thing d = true ∧ PyData.depth d ≤ n ∧ (txt d).length ≤ 1000000 ∧ (sz d ≤ 4000) ∧ ∀ H', Same H H' → Q (.str (txt d)) H'
structure TxtLT (K : PySem.W.Frag) (mg : Str → Option Value) (f : Addr) : Prop where
  isi : mg "isinstance" = none
  str : mg "str" = none
  gS : mg "_law_text" = some (.ref f)
  kS : PySem.W.keepIn K (.ref f) = true
theorem kid_depth {d p : PyData} {n : Nat} (hp : p ∈ kids d) (h : PyData.depth d ≤ n + 1) : PyData.depth p ≤ n := by
  have go : ∀ {ds : List PyData} {p : PyData}, p ∈ ds → PyData.depth p ≤ PyData.depthAll ds := fun {ds p} => by
    induction ds with
    | nil => intro z; exact (List.not_mem_nil z).elim
    | cons d ds ih =>
      intro z
      simp only [PyData.depthAll]
      rcases List.mem_cons.mp z with rfl | z
      · exact Nat.le_max_left _ _
      · exact Nat.le_trans (ih z) (Nat.le_max_right _ _)
  cases d with
  | tuple ds =>
    cases ds with
    | nil => exact (List.not_mem_nil hp).elim
    | cons k ds =>
      have hp' : p ∈ ds := hp
      have := go (List.mem_cons_of_mem k hp')
      simp only [PyData.depth] at h
      omega
  | _ => exact (List.not_mem_nil hp).elim
theorem kid_depth0 {d : PyData} (h : PyData.depth d ≤ 0) : kids d = [] := by
  cases d with
  | tuple ds => simp only [PyData.depth] at h; omega
  | _ => rfl
theorem kid_sz {d p : PyData} (hp : p ∈ kids d) : sz p + 1 ≤ sz d := by
  have := flat_ge hp
  unfold sz
  rw [lot_eq d, List.length_cons]
  omega
theorem kids_num {ps : List PyData} {c : Str} (h : sz (.tuple (.str c :: ps)) ≤ 4000) : ps.length ≤ 4000 := by
  have e : (ps.flatMap lot).length + 1 = sz (.tuple (.str c :: ps)) := by
    unfold sz
    rw [lot_eq (.tuple _), List.length_cons]
    rfl
  have : ps.length ≤ (ps.flatMap lot).length := by
    clear h e
    induction ps with
    | nil => simp
    | cons p ps ih =>
      rw [List.flatMap_cons, List.length_append, List.length_cons]
      have := sz_pos p
      unfold sz at this
      omega
  omega
section
variable {P : Program} {w : World} {K : PySem.W.Frag} {mg : Str → Option Value} {base : Heap}
end
end K12

set_option Elab.async false
set_option linter.all false
set_option maxRecDepth 100000
set_option maxHeartbeats 4000000
/-! The law's own list of pieces. -/
namespace K12
open PySem PySem.Spec PyProof.Rows L2 Mine TL
def spLLot (K : PySem.W.Frag) (n : Nat) : Sp := fun vs H Q _ => ∃ v d, vs = [v] ∧ Dp K H v d ∧ thing d = true ∧ PyData.depth d ≤ n ∧ sz d ≤ 4000 ∧ ∀ (p : Addr) (us : List V) (H' : Hp), Same H H' → H p = none → H' p = some (.lst us) → DpAll K H' us (lot d) → Q (.ref p) H'
structure TxtLO (K : PySem.W.Frag) (mg : Str → Option Value) (f : Addr) : Prop where
  isi : mg "isinstance" = none
  tuple : mg "tuple" = none
  gS : mg "_law_lot" = some (.ref f)
  kS : PySem.W.keepIn K (.ref f) = true
section
variable {P : Program} {w : World} {K : PySem.W.Frag} {mg : Str → Option Value} {base : Heap}
theorem take_lot {ps : List PyData} {i : Nat} : ((ps.take i).flatMap lot).length ≤ (ps.flatMap lot).length := by
  have e : ps.flatMap lot = (ps.take i).flatMap lot ++ (ps.drop i).flatMap lot := by rw [← List.flatMap_append, List.take_append_drop]
  rw [e, List.length_append]
  omega
end
end K12

set_option Elab.async false
set_option linter.all false
set_option maxRecDepth 100000
set_option maxHeartbeats 4000000
/-! Drawn things as data. -/
namespace K12
open PySem PySem.Spec PyProof.Rows L2 Mine TL
/-- the words and names that drawn things have as leaves -/
def LV : List Str := [PySem.Str.ofString "a", PySem.Str.ofString "b", PySem.Str.ofString "K", PySem.Str.ofString "L", PySem.Str.ofString "K1", PySem.Str.ofString "half", PySem.Str.ofString "Zz", PySem.Str.ofString "N", PySem.Str.ofString "Q", PySem.Str.ofString "Q9"]
mutual
def drawn : PyData → Bool
  | .str x => decide (x ∈ LV)
  | .tuple (.str c :: d :: ds) => decide (c ∈ W8) && drawn d && drawns ds
  | _ => false
def drawns : List PyData → Bool
  | [] => true
  | d :: ds => drawn d && drawns ds
end
theorem drawns_iff {ds : List PyData} : drawns ds = true ↔ ∀ d ∈ ds, drawn d = true := by
  induction ds with
  | nil => simp [drawns]
  | cons d ds ih => simp only [drawns, Bool.and_eq_true, ih, List.mem_cons, forall_eq_or_imp]
theorem drawn_cases {d : PyData} (h : drawn d = true) : (∃ c, d = .str c ∧ c ∈ LV) ∨ ∃ c ps, d = .tuple (.str c :: ps) ∧ ps ≠ [] ∧ c ∈ W8 ∧ ∀ p ∈ ps, drawn p = true := by
  cases d with
  | str c => exact .inl ⟨c, rfl, by simpa [drawn] using h⟩
  | tuple ds =>
    match ds, h with
    | .str c :: p :: ps, h =>
      have h' : (c ∈ W8 ∧ drawn p = true) ∧ drawns ps = true := by simpa [drawn] using h
      refine .inr ⟨c, p :: ps, rfl, List.cons_ne_nil _ _, h'.1.1, fun x hx => ?_⟩
      rcases List.mem_cons.mp hx with rfl | hx
      · exact h'.1.2
      · exact drawns_iff.mp h'.2 x hx
    | [], h => simp [drawn] at h
    | [x], h => cases x <;> simp [drawn] at h
    | .none :: _ :: _, h => simp [drawn] at h
    | .bool _ :: _ :: _, h => simp [drawn] at h
    | .int _ :: _ :: _, h => simp [drawn] at h
    | .list _ :: _ :: _, h => simp [drawn] at h
    | .tuple _ :: _ :: _, h => simp [drawn] at h
    | .dict _ :: _ :: _, h => simp [drawn] at h
  | none => simp [drawn] at h
  | bool _ => simp [drawn] at h
  | int _ => simp [drawn] at h
  | list _ => simp [drawn] at h
  | dict _ => simp [drawn] at h
theorem drawn_tup {c : Str} {ps : List PyData} (hc : c ∈ W8) (ne : ps ≠ []) (h : ∀ p ∈ ps, drawn p = true) : drawn (.tuple (.str c :: ps)) = true := by
  cases ps with
  | nil => exact absurd rfl ne
  | cons p ps =>
    simp only [drawn, Bool.and_eq_true, decide_eq_true_eq]
    exact ⟨⟨hc, h p (List.mem_cons_self ..)⟩, drawns_iff.mpr fun x hx => h x (List.mem_cons_of_mem _ hx)⟩
theorem drawn_str {x : Str} (h : x ∈ LV) : drawn (.str x) = true := by simpa [drawn] using h
theorem lv_okS : ∀ x ∈ LV, okS x = true := by decide +kernel
theorem w8_okS : ∀ x ∈ W8, okS x = true := by decide +kernel
theorem lv_len : ∀ x ∈ LV, x.length ≤ 8 := by decide +kernel
theorem w8_len : ∀ x ∈ W8, x.length ≤ 8 := by decide +kernel
theorem lv_cps : ∀ x ∈ LV, ∀ c ∈ x.cps.toList, c < 0x110000 := by decide +kernel
theorem lv_shown : ∀ x ∈ LV, (PyData.shown (.str x)).length ≤ 10 := by decide +kernel
theorem w8_shown : ∀ x ∈ W8, (PyData.shown (.str x)).length ≤ 10 := by decide +kernel
theorem sz_str (c : Str) : sz (.str c) = 1 := by simp [sz, lot]
theorem sz_tup (c : Str) (ps : List PyData) : sz (.tuple (.str c :: ps)) = 1 + (ps.map sz).sum := by
  unfold sz
  rw [lot_eq, List.length_cons]
  show (ps.flatMap lot).length + 1 = _
  rw [List.length_flatMap]
  omega
theorem drawn_thing : ∀ (n : Nat) (d : PyData), sz d ≤ n → drawn d = true → thW d = true
  | 0, d, hn, _ => by have := sz_pos d; omega
  | n + 1, d, hn, h => by
    rcases drawn_cases h with ⟨c, rfl, hc⟩ | ⟨c, ps, rfl, ne, hc, hp⟩
    · simpa only [thW] using lv_okS c hc
    · cases ps with
      | nil => exact absurd rfl ne
      | cons p ps =>
        have all : ∀ q ∈ p :: ps, thW q = true := fun q hq => drawn_thing n q (by have : sz q + 1 ≤ sz (.tuple (.str c :: p :: ps)) := kid_sz (show q ∈ kids (.tuple (.str c :: p :: ps)) from hq); omega) (hp q hq)
        simp only [thW, w8_okS c hc, all p (List.mem_cons_self ..), thWs_iff.mpr fun x hx => all x (List.mem_cons_of_mem _ hx)]
        rfl
theorem sums {ps : List PyData} {f g : PyData → Nat} (h : ∀ p ∈ ps, f p ≤ g p) : (ps.map f).sum ≤ (ps.map g).sum := by
  induction ps with
  | nil => exact Nat.le_refl _
  | cons p ps ih =>
    have := h p (List.mem_cons_self ..)
    have := ih fun q hq => h q (List.mem_cons_of_mem _ hq)
    simp only [List.map_cons, List.sum_cons]
    omega
theorem sum_mul (k : Nat) (ps : List PyData) : (ps.map fun p => k * sz p).sum = k * (ps.map sz).sum := by
  induction ps with
  | nil => rfl
  | cons p ps ih => simp only [List.map_cons, List.sum_cons, ih, Nat.mul_add]
theorem sum_add (k : Nat) (f : PyData → Nat) (ps : List PyData) : (ps.map fun p => f p + k).sum = (ps.map f).sum + k * ps.length := by
  induction ps with
  | nil => rfl
  | cons p ps ih =>
    simp only [List.map_cons, List.sum_cons, ih, List.length_cons, Nat.mul_add]
    omega
theorem drawn_txt : ∀ (n : Nat) (d : PyData), sz d ≤ n → drawn d = true → (txt d).length + 1 ≤ 11 * sz d
  | 0, d, hn, _ => by have := sz_pos d; omega
  | n + 1, d, hn, h => by
    rcases drawn_cases h with ⟨c, rfl, hc⟩ | ⟨c, ps, rfl, ne, hc, hp⟩
    · have := lv_len c hc
      rw [txt_str, sz_str]
      omega
    · have all : ∀ q ∈ ps, (txt q).length + 1 ≤ 11 * sz q := fun q hq => drawn_txt n q (by have : sz q + 1 ≤ sz (.tuple (.str c :: ps)) := kid_sz (show q ∈ kids (.tuple (.str c :: ps)) from hq); omega) (hp q hq)
      have s1 := sums all
      rw [sum_mul, sum_add 1 (fun q => (txt q).length)] at s1
      have cl := w8_len c hc
      have comma1 : (PySem.Str.ofString ",").length = 1 := by decide +kernel
      have o1 : (PySem.Str.ofString "(").length = 1 := by decide +kernel
      have o2 : (PySem.Str.ofString ")").length = 1 := by decide +kernel
      have jl := join_len (y := PySem.Str.ofString ",") (ps := ps.map txt) (by simpa using ne)
      rw [comma1, List.map_map, List.length_map] at jl
      have e : (List.map ((fun x => x.length) ∘ txt) ps) = ps.map fun q => (txt q).length := rfl
      rw [e] at jl
      rw [txt_tup, sz_tup, strLen_append, strLen_append, strLen_append, o1, o2]
      omega
theorem shownAll_eq (ds : List PyData) : PyData.shownAll ds = ds.map PyData.shown := by
  induction ds with
  | nil => simp [PyData.shownAll]
  | cons d ds ih => simp [PyData.shownAll, ih]
theorem showableAll_iff {ds : List PyData} : PyData.showableAll ds = true ↔ ∀ d ∈ ds, d.showable = true := by
  induction ds with
  | nil => simp [PyData.showableAll]
  | cons d ds ih => simp only [PyData.showableAll, Bool.and_eq_true, ih, List.mem_cons, forall_eq_or_imp]
theorem drawn_show : ∀ (n : Nat) (d : PyData), sz d ≤ n → drawn d = true → d.showable = true ∧ (PyData.shown d).length + 2 ≤ 30 * sz d
  | 0, d, hn, _ => by have := sz_pos d; omega
  | n + 1, d, hn, h => by
    rcases drawn_cases h with ⟨c, rfl, hc⟩ | ⟨c, ps, rfl, ne, hc, hp⟩
    · have := lv_shown c hc
      rw [sz_str]
      exact ⟨by simp [PyData.showable], by omega⟩
    · have all : ∀ q ∈ ps, q.showable = true ∧ (PyData.shown q).length + 2 ≤ 30 * sz q := fun q hq => drawn_show n q (by have : sz q + 1 ≤ sz (.tuple (.str c :: ps)) := kid_sz (show q ∈ kids (.tuple (.str c :: ps)) from hq); omega) (hp q hq)
      refine ⟨?_, ?_⟩
      · simp only [PyData.showable, PyData.showableAll, Bool.true_and]
        exact showableAll_iff.mpr fun q hq => (all q hq).1
      · have s1 := sums fun q hq => (all q hq).2
        rw [sum_mul, sum_add 2 (fun q => (PyData.shown q).length)] at s1
        have h1 := tupleText_len_le (PyData.shownAll (.str c :: ps))
        have cl := w8_shown c hc
        rw [shownAll_eq, List.map_map, List.length_map, List.length_cons] at h1
        simp only [List.map_cons, List.sum_cons] at h1
        have e : (List.map ((fun x => x.length) ∘ PyData.shown) ps) = ps.map fun q => (PyData.shown q).length := rfl
        rw [e] at h1
        rw [sz_tup]
        simp only [PyData.shown]
        rw [shownAll_eq]
        simp only [List.map_cons]
        have : ((fun x : Str => x.length) ∘ PyData.shown) (.str c) = (PyData.shown (.str c)).length := rfl
        omega
theorem drawn_lot : ∀ (n : Nat) (d : PyData), sz d ≤ n → drawn d = true → ∀ p ∈ lot d, drawn p = true ∧ sz p ≤ sz d ∧ PyData.depth p ≤ PyData.depth d
  | 0, d, hn, _ => by have := sz_pos d; omega
  | n + 1, d, hn, h => by
    intro p hp
    rw [lot_eq] at hp
    rcases List.mem_cons.mp hp with rfl | hp
    · exact ⟨h, Nat.le_refl _, Nat.le_refl _⟩
    · obtain ⟨q, hq, hp2⟩ := List.mem_flatMap.mp hp
      rcases drawn_cases h with ⟨c, rfl, hc⟩ | ⟨c, ps, rfl, ne, hc, hpp⟩
      · exact (List.not_mem_nil hq).elim
      · have qs := kid_sz hq
        obtain ⟨a, b, e⟩ := drawn_lot n q (by omega) (hpp q hq) p hp2
        have dq : PyData.depth q ≤ PyData.depth (.tuple (.str c :: ps)) := by
          have := kid_depth (n := PyData.depth (.tuple (.str c :: ps)) - 1) hq (by omega)
          omega
        exact ⟨a, by omega, by omega⟩
mutual
/-- of kinds with their numbers of parts -/
def fitK (ks : List (Str × Int)) : PyData → Bool
  | .str _ => true
  | .tuple (.str c :: ds) => decide ((c, (ds.length : Int)) ∈ ks) && fitKs ks ds
  | _ => false
def fitKs (ks : List (Str × Int)) : List PyData → Bool
  | [] => true
  | d :: ds => fitK ks d && fitKs ks ds
end
theorem fitKs_iff {ks : List (Str × Int)} {ds : List PyData} : fitKs ks ds = true ↔ ∀ d ∈ ds, fitK ks d = true := by
  induction ds with
  | nil => simp [fitKs]
  | cons d ds ih => simp only [fitKs, Bool.and_eq_true, ih, List.mem_cons, forall_eq_or_imp]
theorem fitK_tup {ks : List (Str × Int)} {c : Str} {ds : List PyData} : fitK ks (.tuple (.str c :: ds)) = true ↔ (c, (ds.length : Int)) ∈ ks ∧ ∀ d ∈ ds, fitK ks d = true := by
  simp only [fitK, Bool.and_eq_true, decide_eq_true_eq, fitKs_iff]
theorem fitK_str {ks : List (Str × Int)} {x : Str} : fitK ks (.str x) = true := by simp only [fitK]
theorem lv_isWN : ∀ x ∈ LV, (isW x || isN x) = true := by decide +kernel
theorem w8_isW : ∀ x ∈ W8, isW x = true := by decide +kernel
end K12

set_option Elab.async false
set_option linter.all false
set_option maxRecDepth 100000
set_option maxHeartbeats 4000000
/-! A drawn thing. -/
namespace K12
open PySem PySem.Spec PyProof.Rows L2 Mine TL
abbrev sThing : Stmt := top 55
structure MakesAt (H : Hp) (mk : Addr) (ms : List V) (ks : List (Str × Int)) : Prop where
  at_ : Fz H mk ms
  ok : DKs H ms (ks.map kD)
  sub : (ks.map (·.1)).Sublist W8
  num : ∀ p ∈ ks, 1 ≤ p.2 ∧ p.2 ≤ 3
theorem Keep.tup {dk dl a : Addr} {H H' : Hp} {t : Int} {xs : List V} (k : Keep dk dl H H') (h : DeckAt H dk dl t) (e : H a = some (.tup xs)) : H' a = some (.tup xs) := by
  obtain ⟨⟨m, h1, _⟩, ⟨cs, h2, _⟩⟩ := h
  exact k _ _ (ne_of e h1 (by intro z; cases z)) (ne_of e h2 (by intro z; cases z)) e
theorem Keep.fz {dk dl a : Addr} {H H' : Hp} {t : Int} {xs : List V} (k : Keep dk dl H H') (h : DeckAt H dk dl t) (e : Fz H a xs) : Fz H' a xs := by
  obtain ⟨⟨m, h1, _⟩, ⟨cs, h2, _⟩⟩ := h
  obtain ⟨o, e, d⟩ := e
  exact ⟨o, k _ _ (ne_of e h1 (by intro z; cases z)) (ne_of e h2 (by intro z; cases z)) e, d⟩
theorem MakesAt.keep {dk dl mk : Addr} {H H' : Hp} {t : Int} {ms : List V} {ks : List (Str × Int)} (M : MakesAt H mk ms ks) (h : DeckAt H dk dl t) (k : Keep dk dl H H') : MakesAt H' mk ms ks :=
  ⟨k.fz h M.at_, kds_keeps (fun _ _ e => k.tup h e) _ _ M.ok, M.sub, M.num⟩
theorem MakesAt.len {H : Hp} {mk : Addr} {ms : List V} {ks : List (Str × Int)} (M : MakesAt H mk ms ks) : ms.length = ks.length ∧ ks.length ≤ 8 := by
  refine ⟨by have := M.ok.len; rwa [List.length_map] at this, ?_⟩
  have := M.sub.length_le
  rw [List.length_map] at this
  exact this
theorem Keep.kt {K : PySem.W.Frag} {dk dl : Addr} {H H' : Hp} {t : Int} (k : Keep dk dl H H') (h : DeckAt H dk dl t) : KT K H H' := fun a xs e => by
  rcases e with (e | ⟨o, e⟩) | e
  · exact .inl (.inl (k.tup h e))
  · obtain ⟨⟨m, h1, _⟩, ⟨cs, h2, _⟩⟩ := h
    exact .inl (.inr ⟨o, k _ _ (ne_of e h1 (by intro z; cases z)) (ne_of e h2 (by intro z; cases z)) e⟩)
  · exact .inr e
theorem depth_all {ds : List PyData} {n : Nat} (h : ∀ d ∈ ds, PyData.depth d ≤ n) : PyData.depthAll ds ≤ n := by
  induction ds with
  | nil => simp [PyData.depthAll]
  | cons d ds ih =>
    have h1 := h d (List.mem_cons_self ..)
    have h2 := ih fun x hx => h x (List.mem_cons_of_mem _ hx)
    simp only [PyData.depthAll]
    omega
theorem drawn_ths {ds : List PyData} (h : ∀ d ∈ ds, drawn d = true) : thingAll ds = true := thingAll_iff.mpr fun d hd => thW_thing _ d (Nat.le_refl _) (drawn_thing _ d (Nat.le_refl _) (h d hd))
theorem drawn_th {d : PyData} (h : drawn d = true) : thing d = true := thW_thing _ d (Nat.le_refl _) (drawn_thing _ d (Nat.le_refl _) h)
def spThing (K : PySem.W.Frag) (n : Nat) : Sp := fun vs H Q _ => ∃ (dk dl mk lf : Addr) (t : Int) (top : Nat) (ms : List V) (ks : List (Str × Int)) (lvs : List Str), vs = [.ref dk, .ref mk, .ref lf, .int (top : Int), .int (n : Int)] ∧ DeckAt H dk dl t ∧ MakesAt H mk ms ks ∧
  lf ≠ dl ∧ H lf = some (.lst (lvs.map V.str)) ∧ (∀ x ∈ lvs, x ∈ LV) ∧ lvs ≠ [] ∧ lvs.length ≤ 9 ∧ 1 ≤ top ∧ top ≤ 30 ∧ 0 ≤ t ∧ t + 5 * (top : Int) ≤ 50000 ∧
  ∀ (v : V) (d : PyData) (t' : Int) (H' : Hp), DeckAt H' dk dl t' → t ≤ t' → t' ≤ t + 5 * (top : Int) → Keep dk dl H H' → Dp K H' v d → drawn d = true → sz d ≤ top → PyData.depth d ≤ n → fitK ks d = true → Q v H'
structure TxtT (K : PySem.W.Frag) (mg : Str → Option Value) (fD fP fT : Addr) : Prop extends TxtP K mg fD fP where
  range : mg "range" = none
  gT : mg "_law_thing" = some (.ref fT)
  kT : PySem.W.keepIn K (.ref fT) = true
abbrev nThing : List Str := ["_law_deck_here", "_law_makes", "_law_leaves", "_law_top", "_law_deep", "_law_fit", "_law_item", "_law_word", "_law_many", "_law_found", "_law_left", "_law_k", "_law_own"]
section
variable {P : Program} {w : World} {K : PySem.W.Frag} {mg : Str → Option Value} {base : Heap}
theorem scThing : FnScope nThing ["_law_deck_here", "_law_makes", "_law_leaves", "_law_top", "_law_deep"] (defScope sThing) := ⟨rfl, rfl, rfl, by decide +kernel, rfl, by decide +kernel, by decide +kernel⟩
theorem ok_thing {j n : Nat} {f fD fP : Addr} {fd fdD fdP : FuncData} {sp' : Sp} (F : Fun K "_law_thing" "_law_thing" sThing f fd) (GD : FnOk P w K mg base CX0 1 fD fdD ["_law_deck_here", "_law_below"] spDraw) (bD : Binds K fdD ["_law_deck_here", "_law_below"] [])
    (GP : FnOk P w K mg base CX0 2 fP fdP ["_law_deck_here", "_law_some"] spPick) (bP : Binds K fdP ["_law_deck_here", "_law_some"] []) (bT : Binds K fd ["_law_deck_here", "_law_makes", "_law_leaves", "_law_top", "_law_deep"] [])
    (T : TxtT K mg fD fP f) (G : FnOk P w K mg base CX0 (j + 2) f fd ["_law_deck_here", "_law_makes", "_law_leaves", "_law_top", "_law_deep"] sp') (hG : ∀ m, n = m + 1 → ∀ vs H Q E, spThing K m vs H Q E → sp' vs H Q E) :
    FnOk P w K mg base CX0 (j + 3) f fd ["_law_deck_here", "_law_makes", "_law_leaves", "_law_top", "_law_deep"] (spThing K n) := by
  refine F.ok scThing (fun vs H Q E h => ?_) (fun cdv A outer s H vs Q E hr h => ?_)
  · obtain ⟨dk, dl, mk, lf, t, top, ms, ks, lvs, rfl, _⟩ := h
    rfl
  · obtain ⟨dk, dl, mk, lf, t, top, ms, ks, lvs, rfl, hD, M, hlf, eL, lsub, lne, l9, top1, top6, t0, t1, k⟩ := h
    have hu := hu_of hr
    have hr1 : Room 1 _ := hr.mono (by omega)
    have hr2 : Room 2 _ := hr.mono (by omega)
    refine ⟨_, pss_cons (ps_setLc (i := 5) (own := [("_law_item", 6)]) (g := gName 6) rfl scThing.nd rfl rfl (sw_true rfl rfl rfl (by decide +kernel)) (pi_tup (pv 1))
        (blkOk_by (own := [("_law_item", 6)]) (N := nThing) (sc := defScope sThing) (by decide +kernel))
        (fun _ _ _ _ _ => pg_name (i := 6) scThing.nd rfl (Or.inl rfl)) (fun _ _ _ _ _ => pts_one (PW.pt (pw_and (pt_cmpR op_lt (pe_ix (show IxR _ (rIxT K) from ix_tup) (pv 6) pe_int (fun _ _ => rfl)) (pv 3) (nomark _)) (pw_and1 (pt_cmpR op_gt (pv 4) pe_int (nomark _)))))) (fun _ _ _ _ _ => pv 6))
      (pss_cons (ps_if (PW.pt (pw_or (pt_cmpR (op_eqD hr.units) (pv 5) (pe_lst pa_nil) (nomark _)) (pw_or1 (pt_cmpR op_eq (pe_call GD hr1 rfl T.gD T.kD bD .nil pass0 (pa_cons (pv 0) (pa_cons pe_int pa_nil))) pe_int (nomark _)))))
          (pss_one (ps_ret (pe_call GP hr2 rfl T.gP T.kP bP .nil pass0 (pa_cons (pv 0) (pa_cons (pv 2) pa_nil))))) pss_nil)
      (pss_cons (ps_asg (pe_call GP hr2 rfl T.gP T.kP bP .nil pass0 (pa_cons (pv 0) (pa_cons (pv 5) pa_nil))) (pg_tup rfl (pgs_cons (pg_name (i := 7) scThing.nd rfl (.inl rfl)) (pgs_cons (pg_name (i := 8) scThing.nd rfl (.inl rfl)) pgs_nil))))
      (pss_cons (ps_par (i := 9) (j := 10) rfl scThing.nd rfl rfl (by decide) rfl rfl (pa_cons (pe_tup (pa_cons (pv 7) pa_nil)) (pa_cons (pe_op op_sub (pv 3) pe_int) pa_nil)) (by rfl))
      (pss_cons (ps_for PassesOwn.never rfl (pi_range1 rfl T.range (pa_cons (pv 8) pa_nil)) (pg_name (i := 11) scThing.nd rfl (.inl rfl))
        (pss_cons (ps_set (i := 12) scThing.nd rfl (.inl rfl) (pe_op op_add pe_int (pe_call GD hr1 rfl T.gD T.kD bD .nil pass0 (pa_cons (pv 0) (pa_cons (pe_op op_sub (pv 10) (pe_op op_sub (pe_op op_sub (pv 8) (pv 11)) pe_int)) pa_nil)))))
        (pss_one (ps_par (i := 9) (j := 10) rfl scThing.nd rfl rfl (by decide) rfl rfl (pa_cons (pe_op op_catT (pv 9) (pe_tup (pa_cons (pe_call G hr rfl T.gT T.kT bT .nil pass0 (pa_cons (pv 0) (pa_cons (pv 1) (pa_cons (pv 2) (pa_cons (pv 12) (pa_cons (pe_op op_sub (pv 4) pe_int) pa_nil)))))) pa_nil))) (pa_cons (pe_op op_sub (pv 10) (pv 12)) pa_nil)) (by rfl)))))
      (pss_one (ps_ret (pv 9))))))), ?_⟩
    have olf : lf ≠ dk := by
      obtain ⟨⟨m, h1, _⟩, _⟩ := hD
      exact ne_of eL h1 (by intro z; cases z)
    obtain ⟨mlen, klen⟩ := M.len
    have w8 : ∀ p ∈ ks, p.1 ∈ W8 := fun p hp => M.sub.subset (List.mem_map_of_mem hp)
    refine ⟨_, rfl, mk, rfl, ⟨_, M.at_.sq⟩, fun D hDn => ?_⟩
    have oD := hD.off hDn
    refine lc_tup (K := K) (a := mk) (xs := ms) (fun i H' => ∃ (fs : List V) (fk : List (Str × Int)), H' = upd H D (.lst fs) ∧ DKs H fs (fk.map kD) ∧ (∀ p ∈ fk, p ∈ ks ∧ p.2 < (top : Int) ∧ 0 < n) ∧ fs.length ≤ i)
      ⟨[], [], rfl, .nil, fun _ z => (List.not_mem_nil z).elim, Nat.le_refl _⟩ (fun i H' _ ⟨fs, fk, e, _⟩ => by rw [e]; exact (M.at_.upd hDn).sq) ?_ ?_
    · rintro i y H' hi ⟨fs, fk, rfl, hfs, hfk, fl⟩
      obtain ⟨d, e1, h1⟩ := dks_at M.ok hi
      rw [List.getElem?_map] at e1
      obtain ⟨p, hp, rfl⟩ : ∃ p, ks[i]? = some p ∧ d = kD p := by
        cases e : ks[i]? with
        | none =>
          rw [e] at e1
          cases e1
        | some z =>
          rw [e] at e1
          exact ⟨z, rfl, (Option.some.inj e1).symm⟩
      obtain ⟨a, rfl, ha⟩ := kd_of h1
      have il : i < ms.length := (List.getElem?_eq_some_iff.mp hi).1
      refine ⟨rfl, _, rfl, a, _, _, _, rfl, rfl, SqT.of ((upd_ne (ne_of_none ha hDn)).trans ha), rfl, _, rfl, _, _, rfl, rfl, _, rfl, ite2 (fun hb => ?_) (fun hb => ?_)⟩
      · refine ⟨_, rfl, _, _, rfl, rfl, _, rfl, ite2 (fun hc => ?_) (fun hc => ?_)⟩
        · refine ⟨_, rfl, fs, upd_same, by rw [sizeLine_eq]; omega, fs ++ [.ref a], fk ++ [p], by rw [upd_upd], ?_, ?_, by rw [List.length_append]; simp only [List.length_cons, List.length_nil]; omega⟩
          · rw [List.map_append]
            exact DKs.snoc h1 hfs
          · intro z hz
            rcases List.mem_append.mp hz with h | h
            · exact hfk z h
            · simp only [List.mem_cons, List.not_mem_nil, or_false] at h
              subst h
              have q1 : (0 : Int) < (n : Int) := of_decide_eq_true hc
              exact ⟨List.mem_of_getElem? hp, of_decide_eq_true hb, by omega⟩
        · exact ⟨fs, fk, rfl, hfs, hfk, by omega⟩
      · exact ite2 (fun z => absurd z Bool.false_ne_true) fun _ => ⟨fs, fk, rfl, hfs, hfk, by omega⟩
    · rintro H1 ⟨fs, fk, rfl, hfs, hfk, fl⟩
      have D1 := hD.new (o := .lst fs) hDn
      have K1 : Keep dk dl H (upd H D (.lst fs)) := Keep.refl.new hDn
      have eD : upd H D (.lst fs) D = some (.lst fs) := upd_same
      generalize upd H D (.lst fs) = H1 at D1 K1 eD
      -- a leaf
      have leaf : ∀ (H' : Hp) (x : Int), DeckAt H' dk dl x → t ≤ x → x ≤ t + 1 → Keep dk dl H H' → spPick [.ref dk, .ref lf] H' Q E := fun H' x D' xa xb K' =>
        ⟨dk, dl, lf, x, lvs.map V.str, rfl, D', hlf, K' _ _ olf hlf eL, by simpa using lne, by rw [List.length_map]; omega, by omega, by omega, fun y H4 hy D4 K4 => by
          obtain ⟨c, hc, rfl⟩ := List.mem_map.mp hy
          exact k _ (.str c) _ _ D4 (by omega) (by omega) (K'.trans K4) (.str c) (drawn_str (lsub c hc)) (by rw [sz_str]; omega) (by simp [PyData.depth]) fitK_str⟩
      have hlen : fs.length = fk.length := by
        have := hfs.len
        rwa [List.length_map] at this
      refine ⟨_, rfl, (by show 0 ≤ sizeLine; exact Nat.zero_le _), fun e he => ?_⟩
      have kE : Keep dk dl H1 (upd H1 e (.lst [])) := Keep.refl.new he
      have eDE := (upd_ne (o := .lst []) (ne_of_none eD he)).trans eD
      have f1 : DKs (upd H1 e (.lst [])) fs (fk.map kD) := kds_keeps (fun _ _ z => (K1.trans kE).tup hD z) _ _ hfs
      have slay : ∀ p ∈ fk, PyData.strOk p.1 = true := fun p hp => w8_ok _ (w8 p (hfk p hp).1)
      refine ⟨_, _, .lst (SqL.of eDE) (dks_dp K _ _ f1 (kds_lay fk slay)), .lst (SqL.of upd_same) .nil, kds_shaped slay, rfl, _, rfl, ?_⟩
      refine ite2 (fun hb => ?_) (fun hb => ?_)
      · exact ite2 (fun _ => ⟨_, rfl, _, rfl, leaf _ t (D1.new he) (by omega) (by omega) (K1.trans kE)⟩) fun z => absurd rfl z
      · refine ⟨_, rfl, dk, dl, 4, t, rfl, D1.new he, by decide, by decide, by omega, by omega, fun r H2 r0 r1 D2 K2 => ⟨rfl, _, rfl, ite2 (fun _ => ?_) (fun _ => ?_)⟩⟩
        · exact ⟨_, rfl, _, rfl, leaf _ (t + 1) D2 (by omega) (by omega) ((K1.trans kE).trans K2)⟩
        have KH2 := (K1.trans kE).trans K2
        have fne : fs ≠ [] := fun z => hb (by
          have : fk = [] := List.length_eq_zero_iff.mp (by rw [← hlen, z]; rfl)
          rw [this]
          simp [PyData.eqv, PyData.eqvAll])
        refine ⟨_, rfl, _, rfl, dk, dl, D, t + 1, fs, rfl, D2, oD.2, K2 _ _ oD.1 oD.2 eDE, fne, by omega, by omega, by omega, fun y H3 hy D3 K3 => ?_⟩
        obtain ⟨d, hd, h1⟩ := dks_mem hfs hy
        obtain ⟨⟨c, m⟩, hc, rfl⟩ := List.mem_map.mp hd
        obtain ⟨a, rfl, ha⟩ := kd_of h1
        obtain ⟨hks, mtop, npos⟩ := hfk _ hc
        have mb := M.num _ hks
        have hcw := w8 _ hks
        have mb1 : 1 ≤ m := mb.1
        have mb3 : m ≤ 3 := mb.2
        have mtop' : m < (top : Int) := mtop
        clear mb mtop
        obtain ⟨n', rfl⟩ : ∃ n', n = n' + 1 := ⟨n - 1, by omega⟩
        have KH3 := KH2.trans K3
        refine ⟨a, _, rfl, SqT.of (KH3.tup hD ha), rfl, _, _, rfl, _, _, rfl, rfl, ?_⟩
        refine ⟨_, rfl, (by show 1 ≤ sizeLine; rw [sizeLine_eq]; decide), fun q hq => ⟨_, rfl, _, _, rfl, rfl, _, _, rfl, ?_⟩⟩
        have hmt : ((m.toNat : Nat) : Int) = m := by omega
        refine ⟨_, rfl, _, rfl, by omega, by omega, ?_⟩
        refine for_range (lo := 0) (n := m.toNat) (fun i σ H' => ∃ (p : Addr) (vs : List V) (ds : List PyData) (left x : Int) (o11 o12 : Option V), σ = [some (.ref dk), some (.ref mk), some (.ref lf), some (.int (top : Int)), some (.int ((n' + 1 : Nat) : Int)), some (.ref D), none, some (.str c), some (.int m), some (.ref p), some (.int left), o11, o12] ∧
            H' p = some (.tup (.str c :: vs)) ∧ H p = none ∧ DpAll K H' vs ds ∧ vs.length = i ∧ (∀ d ∈ ds, drawn d = true ∧ PyData.depth d ≤ n' ∧ fitK ks d = true) ∧ (((ds.map sz).sum : Nat) : Int) + left ≤ (top : Int) - 1 ∧ m - (i : Int) ≤ left ∧ left ≤ (top : Int) - 1 ∧ DeckAt H' dk dl x ∧ t ≤ x ∧ x ≤ t + 2 + (i : Int) + 5 * ((top : Int) - 1 - left) ∧ Keep dk dl H H')
          ⟨q, [], [], (top : Int) - 1, t + 1 + 1, none, none, rfl, upd_same, hD.dom D3 KH3 q hq, .nil, rfl, (fun _ z => (List.not_mem_nil z).elim), by simp, by omega, by omega, D3.new hq, by omega, by omega, KH3.new hq⟩ ?_ ?_
        · rintro i σ H' hi ⟨p, vs, ds, left, x, o11, o12, rfl, hp, np, hds, vl, tok, sl, ml, lt, D', xa, xb, K'⟩
          have hi' : (i : Int) + 1 ≤ m := by omega
          refine ⟨_, rfl, _, rfl, _, rfl, _, rfl, _, _, rfl, rfl, _, _, rfl, rfl, _, _, rfl, rfl, dk, dl, left - (m - (0 + (i : Int)) - 1), x, rfl, D', by omega, by omega, by omega, by omega, fun r H4 r0 r1 D4 K4 => ⟨_, _, rfl, rfl, ?_⟩⟩
          have hown : (((1 + r).toNat : Nat) : Int) = 1 + r := by omega
          have KH4 := K'.trans K4
          refine ⟨_, rfl, _, rfl, _, rfl, _, rfl, _, rfl, _, rfl, _, _, rfl, rfl, hG n' rfl _ _ _ _ ⟨dk, dl, mk, lf, x + 1, (1 + r).toNat, ms, ks, lvs, ?_, D4, M.keep hD KH4, hlf, KH4 _ _ olf hlf eL, lsub, lne, l9, by omega, by omega, by omega, by omega, fun v d x' H5 D5 xc xd K5 hv hok hsz hdep hfit => ?_⟩⟩
          · have z : ((n' + 1 : Nat) : Int) - 1 = (n' : Int) := by omega
            show [V.ref dk, V.ref mk, V.ref lf, V.int (1 + r), V.int (((n' + 1 : Nat) : Int) - 1)] = [V.ref dk, V.ref mk, V.ref lf, V.int (((1 + r).toNat : Nat) : Int), V.int (n' : Int)]
            rw [hown, z]
          have KH5 := KH4.trans K5
          have op := hD.off np
          refine ⟨(by show 1 ≤ sizeLine; rw [sizeLine_eq]; decide), fun q5 hq5 => ?_⟩
          have hp5 : upd H5 q5 (.tup [v]) p = some (.tup (.str c :: vs)) := ((K4.trans K5).new hq5) _ _ op.1 op.2 hp
          refine ⟨p, q5, _, _, rfl, rfl, SqT.of hp5, SqT.of upd_same, List.cons_ne_nil _ _, (by rw [List.length_cons, List.length_cons, List.length_nil, sizeLine_eq]; omega), (fun z => absurd z (List.cons_ne_nil _ _)), fun _ p6 hp6 => ?_⟩
          refine ⟨_, rfl, _, rfl, _, _, rfl, rfl, _, _, rfl, ?_⟩
          have K56 : Keep dk dl H5 (upd (upd H5 q5 (.tup [v])) p6 (.tup (.str c :: vs ++ [v]))) := (Keep.refl.new hq5).new hp6
          have K46 : Keep dk dl H' (upd (upd H5 q5 (.tup [v])) p6 (.tup (.str c :: vs ++ [v]))) := (K4.trans K5).trans K56
          have kt46 : KT K H' (upd (upd H5 q5 (.tup [v])) p6 (.tup (.str c :: vs ++ [v]))) := K46.kt D'
          have kt56 : KT K H5 (upd (upd H5 q5 (.tup [v])) p6 (.tup (.str c :: vs ++ [v]))) := K56.kt D5
          refine ⟨p6, vs ++ [v], ds ++ [d], left - (1 + r), x', _, _, rfl, upd_same, hD.dom (D5.new hq5) (KH5.new hq5) p6 hp6, ?_, by rw [List.length_append, vl]; rfl, (fun d' hd' => by
              rcases List.mem_append.mp hd' with h | h
              · exact tok _ h
              · simp only [List.mem_cons, List.not_mem_nil, or_false] at h
                rw [h]
                exact ⟨hok, hdep, hfit⟩), ?_, by omega, by omega, (D5.new hq5).new hp6, by omega, by omega, KH5.trans K56⟩
          · exact dps_app (ths_kt kt46 _ _ (drawn_ths fun z hz => (tok z hz).1) hds) (.cons (th_kt kt56 d v (drawn_th hok) hv) .nil)
          · rw [List.map_append, List.sum_append]
            simp only [List.map_cons, List.map_nil, List.sum_cons, List.sum_nil]
            omega
        · rintro σ H' ⟨p, vs, ds, left, x, o11, o12, rfl, hp, np, hds, vl, tok, sl, ml, lt, D', xa, xb, K'⟩
          have dl1 := dps_len hds
          have dne : ds ≠ [] := fun z => by
            rw [z] at dl1
            simp only [List.length_nil] at dl1
            omega
          refine ⟨_, rfl, k _ (.tuple (.str c :: ds)) x H' D' xa (by omega) K' (.tup (SqT.of hp) (.cons (.str _) hds)) (drawn_tup hcw dne fun z hz => (tok z hz).1) ?_ ?_ (fitK_tup.mpr ⟨by rw [← dl1, vl, hmt]; exact hks, fun z hz => (tok z hz).2.2⟩)⟩
          · rw [sz_tup]
            omega
          · have := depth_all fun z hz => (tok z hz).2.1
            simp only [PyData.depth, PyData.depthAll]
            omega
end
end K12

set_option Elab.async false
set_option linter.all false
set_option maxRecDepth 100000
set_option maxHeartbeats 4000000
/-! What is written of drawn things: sizes of the texts. -/
namespace K12
open PySem PySem.Spec PyProof.Rows L2 Mine TL
theorem joinL_all {f : Nat → Bool} {S : List Nat} (hS : S.all f = true) : ∀ ls : List (List Nat), (∀ l ∈ ls, l.all f = true) → (joinL S ls).all f = true
  | [], _ => rfl
  | [x], h => h x (List.mem_cons_self ..)
  | x :: y :: r, h => by
    show (x ++ (S ++ joinL S (y :: r))).all f = true
    rw [List.all_append, List.all_append, h x (List.mem_cons_self ..), hS, joinL_all hS (y :: r) fun l hl => h l (List.mem_cons_of_mem _ hl)]
    rfl
theorem lv_sign : ∀ x ∈ LV, (tl x).all signOk = true := by decide +kernel
theorem w8_sign : ∀ x ∈ W8, (tl x).all signOk = true := by decide +kernel
theorem drawn_sign : ∀ (n : Nat) (d : PyData), sz d ≤ n → drawn d = true → (tl (txt d)).all signOk = true
  | 0, d, hn, _ => by have := sz_pos d; omega
  | n + 1, d, hn, h => by
    rcases drawn_cases h with ⟨c, rfl, hc⟩ | ⟨c, ps, rfl, ne, hc, hp⟩
    · rw [txt_str]
      exact lv_sign c hc
    · have all : ∀ q ∈ ps, (tl (txt q)).all signOk = true := fun q hq => drawn_sign n q (by have : sz q + 1 ≤ sz (.tuple (.str c :: ps)) := kid_sz (show q ∈ kids (.tuple (.str c :: ps)) from hq); omega) (hp q hq)
      have e1 : tl (PySem.Str.ofString "(") = [40] := by decide +kernel
      have e2 : tl (PySem.Str.ofString ")") = [41] := by decide +kernel
      have e3 : tl (PySem.Str.ofString ",") = [44] := by decide +kernel
      rw [txt_tup, tl_append, tl_append, tl_append, tl_join, e1, e2, e3, List.all_append, List.all_append, List.all_append, w8_sign c hc, joinL_all (by decide) _ fun l hl => ?_]
      · decide
      · rw [List.map_map] at hl
        obtain ⟨q, hq, rfl⟩ := List.mem_map.mp hl
        exact all q hq
theorem shows_txt {d : PyData} (h : drawn d = true) : Shows (11 * sz d + 2) 0 (.str (txt d)) := by
  refine ⟨by simp [PyData.showable], ?_, by simp [PyData.depth]⟩
  have e := tl_repr (drawn_sign _ d (Nat.le_refl _) h)
  have l := congrArg List.length e
  have e1 : ∀ z : Str, (tl z).length = z.length := fun z => by simp [tl, Str.length]
  rw [e1, List.length_cons, List.length_append, e1, List.length_singleton] at l
  have := drawn_txt _ d (Nat.le_refl _) h
  rw [PyData.shown_str]
  omega
theorem shows_thing {d : PyData} {n : Nat} (h : drawn d = true) (dep : PyData.depth d ≤ n) : Shows (30 * sz d) n d :=
  ⟨(drawn_show _ d (Nat.le_refl _) h).1, by have := (drawn_show _ d (Nat.le_refl _) h).2; omega, dep⟩
theorem map_sum_le {ds : List PyData} {f : PyData → Nat} {k : Nat} (h : ∀ d ∈ ds, f d ≤ k) : (ds.map f).sum ≤ ds.length * k := by
  induction ds with
  | nil => simp
  | cons d ds ih =>
    have := h d (List.mem_cons_self ..)
    have := ih fun x hx => h x (List.mem_cons_of_mem _ hx)
    simp only [List.map_cons, List.sum_cons, List.length_cons, Nat.add_mul]
    omega
theorem shows_list {ds : List PyData} {n l : Nat} (h : ∀ d ∈ ds, Shows n l d) : Shows (ds.length * n + 2 * ds.length + 3) (l + 1) (.list ds) := by
  refine ⟨?_, ?_, ?_⟩
  · simp only [PyData.showable]
    exact showableAll_iff.mpr fun d hd => (h d hd).ok
  · have h1 := listText_len_le (PyData.shownAll ds)
    rw [shownAll_eq, List.map_map, List.length_map] at h1
    have := map_sum_le (f := (fun x : Str => x.length) ∘ PyData.shown) fun d hd => (h d hd).len
    simp only [PyData.shown]
    rw [shownAll_eq]
    omega
  · have := depth_all fun d hd => (h d hd).dep
    simp only [PyData.depth]
    omega
theorem shows_tuple {ds : List PyData} {n l : Nat} (h : ∀ d ∈ ds, Shows n l d) : Shows (ds.length * n + 2 * ds.length + 3) (l + 1) (.tuple ds) := by
  refine ⟨?_, ?_, ?_⟩
  · simp only [PyData.showable]
    exact showableAll_iff.mpr fun d hd => (h d hd).ok
  · have h1 := tupleText_len_le (PyData.shownAll ds)
    rw [shownAll_eq, List.map_map, List.length_map] at h1
    have := map_sum_le (f := (fun x : Str => x.length) ∘ PyData.shown) fun d hd => (h d hd).len
    simp only [PyData.shown]
    rw [shownAll_eq]
    omega
  · have := depth_all fun d hd => (h d hd).dep
    simp only [PyData.depth]
    omega
theorem len_of_sub {α : Type} [DecidableEq α] : ∀ {l m : List α}, l.Nodup → (∀ x ∈ l, x ∈ m) → l.length ≤ m.length
  | [], _, _, _ => Nat.zero_le _
  | x :: l, m, nd, sub => by
    obtain ⟨hx, nd'⟩ := List.nodup_cons.mp nd
    have xm := sub x (List.mem_cons_self ..)
    have p := List.perm_cons_erase xm
    have := len_of_sub (l := l) (m := m.erase x) nd' fun y hy => by
      have : y ∈ x :: m.erase x := p.mem_iff.mp (sub y (List.mem_cons_of_mem _ hy))
      rcases List.mem_cons.mp this with rfl | z
      · exact absurd hy hx
      · exact z
    have e := p.length_eq
    rw [List.length_cons] at e ⊢
    omega
theorem lts_nodup {l : List Str} (h : l.Pairwise LtS) : l.Nodup := List.Pairwise.imp (R := LtS) (S := (· ≠ ·)) (fun {a b} z e => lts_irr (a := b) (by rw [e] at z; exact z)) h
theorem asc_len {ds P : List PyData} (a : AscOf ds P) : ds.length ≤ P.length := by
  have nd : (ds.map txt).Nodup := lts_nodup a.asc
  have := len_of_sub (m := P.map txt) nd fun x hx => by
    obtain ⟨d, hd, rfl⟩ := List.mem_map.mp hx
    exact List.mem_map_of_mem ((a.mem d).mp hd)
  simpa using this
theorem those_len {f : Str → Bool} {d : PyData} {ys : List Str} (h : Those f d ys) (hd : drawn d = true) : ys.length ≤ 10 ∧ ∀ y ∈ ys, y ∈ LV := by
  have m : ∀ y ∈ ys, y ∈ LV := fun y hy => by
    have := (drawn_lot _ d (Nat.le_refl _) hd _ ((h.mem y).mp hy).1).1
    simpa [drawn] using this
  exact ⟨len_of_sub (m := LV) (lts_nodup h.asc) m, m⟩
theorem those_eq {f : Str → Bool} {d : PyData} {ys zs : List Str} (a : Those f d ys) (b : Those f d zs) : ys = zs := asc_eq a.asc b.asc fun x => (a.mem x).trans (b.mem x).symm
theorem shows_lvs {ys : List Str} (n : ys.length ≤ 10) (h : ∀ y ∈ ys, y ∈ LV) : Shows 200 1 (.tuple (ys.map PyData.str)) := by
  refine (shows_tuple (ds := ys.map PyData.str) (n := 10) (l := 0) fun d hd => ?_).up (by rw [List.length_map]; omega) (Nat.le_refl _)
  obtain ⟨y, hy, rfl⟩ := List.mem_map.mp hd
  exact ⟨by simp [PyData.showable], lv_shown y (h y hy), by simp [PyData.depth]⟩
/-- what the law compares of a thing -/
def tellD (d : PyData) (ds : List PyData) (ys zs : List Str) : List PyData := [.str (txt d), .tuple ds, .int (sz d : Nat), .tuple (ys.map PyData.str), .tuple (zs.map PyData.str)]
theorem int_shown : ∀ n ≤ 30, (PyData.int (n : Nat)).showable = true ∧ (PyData.shown (.int (n : Nat))).length ≤ 10 := by decide +kernel
theorem shows_tell {d : PyData} {ds : List PyData} {ys zs : List Str} (h : drawn d = true) (s : sz d ≤ 30) (dep : PyData.depth d ≤ 12) (a : AscOf ds (lot d)) (b : Those isN d ys) (c : Those isW d zs) : Shows 200000 14 (.list (tellD d ds ys zs)) := by
  have dl : ds.length ≤ 30 := Nat.le_trans (asc_len a) s
  have s1 : Shows 30000 13 (.tuple ds) := (shows_tuple (n := 900) (l := 12) fun x hx => by
    obtain ⟨e1, e2, e3⟩ := drawn_lot _ d (Nat.le_refl _) h x ((a.mem x).mp hx)
    exact (shows_thing e1 (Nat.le_trans e3 dep)).up (by omega) (Nat.le_refl _)).up (by omega) (Nat.le_refl _)
  obtain ⟨y1, y2⟩ := those_len b h
  obtain ⟨z1, z2⟩ := those_len c h
  have hi := int_shown _ s
  refine (shows_list (n := 30000) (l := 13) fun x hx => ?_).up (by show 5 * 30000 + 2 * 5 + 3 ≤ 200000; decide) (Nat.le_refl _)
  unfold tellD at hx
  simp only [List.mem_cons, List.not_mem_nil, or_false] at hx
  rcases hx with rfl | rfl | rfl | rfl | rfl
  · exact (shows_txt h).up (by omega) (by omega)
  · exact s1
  · exact ⟨hi.1, by omega, by simp [PyData.depth]⟩
  · exact (shows_lvs y1 y2).up (by omega) (by omega)
  · exact (shows_lvs z1 z2).up (by omega) (by omega)
theorem put_drawn {f : Str → PyData} (hf : ∀ x ∈ LV, drawn (f x) = true) : ∀ (n : Nat) (d : PyData), sz d ≤ n → drawn d = true → drawn (put f d) = true
  | 0, d, hn, _ => by have := sz_pos d; omega
  | n + 1, d, hn, h => by
    rcases drawn_cases h with ⟨c, rfl, hc⟩ | ⟨c, ps, rfl, ne, hc, hp⟩
    · rw [put_str]
      exact hf c hc
    · rw [put_tup]
      refine drawn_tup hc (by simpa using ne) fun q hq => ?_
      obtain ⟨p, hp1, rfl⟩ := List.mem_map.mp hq
      exact put_drawn hf n p (by have : sz p + 1 ≤ sz (.tuple (.str c :: ps)) := kid_sz (show p ∈ kids (.tuple (.str c :: ps)) from hp1); omega) (hp p hp1)
theorem put_sz {f : Str → PyData} {k : Nat} (k1 : 1 ≤ k) (hf : ∀ x ∈ LV, sz (f x) ≤ k) : ∀ (n : Nat) (d : PyData), sz d ≤ n → drawn d = true → sz (put f d) ≤ k * sz d
  | 0, d, hn, _ => by have := sz_pos d; omega
  | n + 1, d, hn, h => by
    rcases drawn_cases h with ⟨c, rfl, hc⟩ | ⟨c, ps, rfl, ne, hc, hp⟩
    · rw [put_str, sz_str]
      have := hf c hc
      omega
    · rw [put_tup, sz_tup, sz_tup, List.map_map]
      have all : ∀ q ∈ ps, (sz ∘ put f) q ≤ k * sz q := fun q hq => put_sz k1 hf n q (by have : sz q + 1 ≤ sz (.tuple (.str c :: ps)) := kid_sz (show q ∈ kids (.tuple (.str c :: ps)) from hq); omega) (hp q hq)
      have := sums all
      rw [sum_mul] at this
      rw [Nat.mul_add]
      omega
theorem put_depth {f : Str → PyData} {k : Nat} (hf : ∀ x ∈ LV, PyData.depth (f x) ≤ k) : ∀ (n : Nat) (d : PyData), sz d ≤ n → drawn d = true → PyData.depth (put f d) ≤ k + PyData.depth d
  | 0, d, hn, _ => by have := sz_pos d; omega
  | n + 1, d, hn, h => by
    rcases drawn_cases h with ⟨c, rfl, hc⟩ | ⟨c, ps, rfl, ne, hc, hp⟩
    · rw [put_str]
      have := hf c hc
      omega
    · rw [put_tup]
      have := depth_all (ds := ps.map (put f)) (n := k + (PyData.depth (.tuple (.str c :: ps)) - 1)) fun q hq => by
        obtain ⟨p, hp1, rfl⟩ := List.mem_map.mp hq
        have i := put_depth hf n p (by have : sz p + 1 ≤ sz (.tuple (.str c :: ps)) := kid_sz (show p ∈ kids (.tuple (.str c :: ps)) from hp1); omega) (hp p hp1)
        have j := kid_depth (n := PyData.depth (.tuple (.str c :: ps)) - 1) (show p ∈ kids (.tuple (.str c :: ps)) from hp1) (by omega)
        omega
      simp only [PyData.depth, PyData.depthAll] at this ⊢
      omega
mutual
theorem dp_same {K : PySem.W.Frag} {H H' : Hp} (s : Same H H') : ∀ (d : PyData) (v : V), Dp K H v d → Dp K H' v d
  | .none, _, h => by cases h; exact .non
  | .bool b, _, h => by cases h; exact .bl b
  | .int i, _, h => by cases h; exact .int i
  | .str x, _, h => by cases h; exact .str x
  | .list ds, _, h => by
    cases h with
    | lst e r =>
      refine .lst ?_ (dps_same s ds _ r)
      rcases e with (e | ⟨o, e⟩) | e
      · exact .inl (.inl (s _ _ e))
      · exact .inl (.inr ⟨o, s _ _ e⟩)
      · exact .inr e
  | .tuple ds, _, h => by
    cases h with
    | tup e r => exact .tup (kt_same s _ _ e) (dps_same s ds _ r)
  | .dict _, _, h => by cases h
theorem dps_same {K : PySem.W.Frag} {H H' : Hp} (s : Same H H') : ∀ (ds : List PyData) (vs : List V), DpAll K H vs ds → DpAll K H' vs ds
  | [], _, h => by cases h; exact .nil
  | d :: ds, _, h => by
    cases h with
    | cons h1 h2 => exact .cons (dp_same s d _ h1) (dps_same s ds _ h2)
end
theorem small_of {d : PyData} (h : drawn d = true) (s : sz d ≤ 1000) : Small d := by
  have := drawn_txt _ d (Nat.le_refl _) h
  exact ⟨drawn_thing _ d (Nat.le_refl _) h, by omega, by omega⟩
end K12

set_option Elab.async false
set_option linter.all false
set_option maxRecDepth 100000
set_option maxHeartbeats 4000000
/-! Whether a drawn thing is one of the book. -/
namespace K12
open PySem PySem.Spec PyProof.Rows L2 Mine TL
abbrev sHas : Stmt := top 42
abbrev sIsTh : Stmt := inClass (top 33) 4
def spHas (K : PySem.W.Frag) : Sp := fun vs H Q _ => ∃ (cd a : Addr) (c : Str) (ws : List V) (ks : List (Str × Int)), vs = [.ref cd, .ref a] ∧ Cnt H cd ks ∧ SqT K H a (.str c :: ws) ∧ (c, (ws.length : Int)) ∈ ks ∧ c ∈ W8 ∧ ∀ H', Same H H' → Q (.bl true) H'
structure TxtHp (K : PySem.W.Frag) (mg : Str → Option Value) (fW : Addr) : Prop where
  len : mg "len" = none
  gW : mg "is_word" = some (.ref fW)
  kW : PySem.W.keepIn K (.ref fW) = true
section
variable {P : Program} {w : World} {K : PySem.W.Frag} {mg : Str → Option Value} {base : Heap}
theorem scHas : FnScope ["counts", "thing"] ["counts", "thing"] (defScope sHas) := ⟨rfl, rfl, rfl, by decide +kernel, rfl, by decide +kernel, by decide +kernel⟩
theorem ok_has {f fW : Addr} {fd dW : FuncData} (F : Fun K "_has_all_parts" "_has_all_parts" sHas f fd) (T : TxtHp K mg fW) (GW : FnOk P w K mg base CX0 1 fW dW ["thing"] (spIs K isW)) (bW : Binds K dW ["thing"] []) : FnOk P w K mg base CX0 2 f fd ["counts", "thing"] (spHas K) := by
  refine F.ok scHas (fun vs H Q E h => ?_) (fun cdv A outer s H vs Q E hr h => ?_)
  · obtain ⟨_, _, _, _, _, rfl, _⟩ := h
    rfl
  · obtain ⟨cd, a, c, ws, ks, rfl, hc, ha, hm, hw, k⟩ := h
    have hu := hu_of hr
    refine ⟨_, pss_cons (ps_if (PW.pt (pw_or (pt_cmpR op_eq (pe_callB call_len_seq (by rfl) T.len PySem.boot_len (pa_cons (pv 1) pa_nil)) pe_int (nomark _))
        (pw_or (pt_not (pt_val (pe_call GW hr rfl T.gW T.kW bW .nil pass0 (pa_cons (pe_ix ix_tup (pv 1) pe_int (fun _ _ => rfl)) pa_nil)))) (pw_or1 (pt_cmp (pc_dnotin hu (pe_ix ix_tup (pv 1) pe_int (fun _ _ => rfl)) (pv 0))))))) (pss_one (ps_ret pe_bl)) pss_nil)
      (pss_one (ps_ret (pe_cmpR op_eq (pe_callB call_len_seq (by rfl) T.len PySem.boot_len (pa_cons (pv 1) pa_nil)) (pe_op op_add (pe_dget hu (pv 0) (pe_ix ix_tup (pv 1) pe_int (fun _ _ => rfl)) (fun _ _ => rfl)) pe_int) (nomark _)))), ?_⟩
    have w8 := w8_len c hw
    refine ⟨_, rfl, a, _, rfl, .inr ha, rfl, _, rfl, ite2 (fun z => absurd z (by simp; omega)) (fun _ => ?_)⟩
    refine ⟨_, rfl, a, _, _, _, rfl, rfl, ha, at0, _, rfl, .inl ⟨c, rfl, by rw [sizeLine_eq]; omega, fun H1 s1 => ⟨_, rfl, ite2 (fun z => absurd z (by rw [w8_isW c hw]; decide)) (fun _ => ?_)⟩⟩⟩
    obtain ⟨kvs, e, yes, no⟩ := hc.same s1
    have ha1 := kt_same (K := K) s1 _ _ ha
    refine ⟨_, rfl, a, _, _, _, rfl, rfl, ha1, at0, _, rfl, cd, some (.int (ws.length : Int)), rfl, .inl ⟨kvs, .inr c, .inl e, rfl, (yes _ hm).symm⟩, _, rfl, ite2 (fun z => absurd z (by simp)) (fun _ => ?_)⟩
    refine ⟨_, rfl, a, _, rfl, .inr ha1, _, rfl, _, rfl, a, _, _, _, rfl, rfl, ha1, at0, cd, _, rfl, .inl ⟨kvs, .inr c, .inl e, rfl, (yes _ hm).symm⟩, _, _, rfl, rfl, rfl, ?_⟩
    have := k H1 s1
    simpa using this
end
end K12

set_option Elab.async false
set_option linter.all false
set_option maxRecDepth 100000
set_option maxHeartbeats 4000000
/-! Book.is_thing of a drawn thing. -/
namespace K12
open PySem PySem.Spec PyProof.Rows L2 Mine TL
structure TxtIT (K : PySem.W.Frag) (mg : Str → Option Value) (C fH fW fN : Addr) : Prop where
  cl : Cls K C
  nK : NoAttr K C "kinds"
  dict : mg "dict" = none
  isi : mg "isinstance" = none
  tuple : mg "tuple" = none
  gH : mg "_has_all_parts" = some (.ref fH)
  kH : PySem.W.keepIn K (.ref fH) = true
  gW : mg "is_word" = some (.ref fW)
  kW : PySem.W.keepIn K (.ref fW) = true
  gN : mg "is_name" = some (.ref fN)
  kN : PySem.W.keepIn K (.ref fN) = true
theorem dps_last {K : PySem.W.Frag} {H : Hp} {r : PyData} : ∀ {R0 : List PyData} {us : List V}, DpAll K H us (R0 ++ [r]) → ∃ us0 y, us = us0 ++ [y] ∧ DpAll K H us0 R0 ∧ Dp K H y r
  | [], _, .cons h .nil => ⟨[], _, rfl, .nil, h⟩
  | d :: R0, _, .cons h t => by
    obtain ⟨us0, y, e, a, b⟩ := dps_last (R0 := R0) t
    exact ⟨_ :: us0, y, by rw [e]; rfl, .cons h a, b⟩
theorem len_sz : ∀ ps : List PyData, ps.length ≤ (ps.map sz).sum
  | [] => Nat.le_refl _
  | p :: ps => by
    have := len_sz ps
    have := sz_pos p
    simp only [List.length_cons, List.map_cons, List.sum_cons]
    omega
/-- a thing of the book that was drawn -/
structure OkT (ks : List (Str × Int)) (d : PyData) : Prop where
  dr : drawn d = true
  fit : fitK ks d = true
theorem OkT.kid {ks : List (Str × Int)} {c : Str} {ps : List PyData} (h : OkT ks (.tuple (.str c :: ps))) : (c, (ps.length : Int)) ∈ ks ∧ c ∈ W8 ∧ ∀ p ∈ ps, OkT ks p := by
  obtain ⟨a, b⟩ := fitK_tup.mp h.fit
  rcases drawn_cases h.dr with ⟨_, z, _⟩ | ⟨c', ps', z, _, hc, hp⟩
  · cases z
  · cases z
    exact ⟨a, hc, fun p hp' => ⟨hp p hp', b p hp'⟩⟩
theorem okT_ths {ks : List (Str × Int)} {R : List PyData} (h : ∀ r ∈ R, OkT ks r) : thingAll R = true := thingAll_iff.mpr fun z hz => drawn_th (h z hz).dr
def spIsTh (K : PySem.W.Frag) (C : Addr) : Sp := fun vs H Q _ => ∃ (x : Addr) (v : V) (ks : List (Str × Int)) (os : List Opn) (d : PyData), vs = [.ref x, v] ∧ BkAt K C H x ks os ∧ Dp K H v d ∧ OkT ks d ∧ sz d ≤ 4000 ∧ ∀ H', Same H H' → Q (.bl true) H'
section
variable {P : Program} {w : World} {K : PySem.W.Frag} {mg : Str → Option Value} {base : Heap}
abbrev nIsTh : List Str := ["self", "thing", "counts", "left", "piece"]
theorem scIsTh : FnScope nIsTh ["self", "thing"] (defScope sIsTh) := ⟨rfl, rfl, rfl, by decide +kernel, rfl, by decide +kernel, by decide +kernel⟩
theorem ok_isTh {f C fH fW fN : Addr} {fd dH dW dN : FuncData} (F : Fun K "is_thing" "Book.is_thing" sIsTh f fd) (T : TxtIT K mg C fH fW fN) (GH : FnOk P w K mg base CX0 2 fH dH ["counts", "thing"] (spHas K)) (bH : Binds K dH ["counts", "thing"] [])
    (GW : FnOk P w K mg base CX0 1 fW dW ["thing"] (spIs K isW)) (bW : Binds K dW ["thing"] []) (GN : FnOk P w K mg base CX0 1 fN dN ["thing"] (spIs K isN)) (bN : Binds K dN ["thing"] []) : FnOk P w K mg base CX0 3 f fd ["self", "thing"] (spIsTh K C) := by
  refine F.ok scIsTh (fun vs H Q E h => ?_) (fun cdv A outer s H vs Q E hr h => ?_)
  · obtain ⟨_, _, _, _, _, rfl, _⟩ := h
    rfl
  · obtain ⟨x, v, ks, os, d, rfl, hb, hd, ok, hsz, k⟩ := h
    have hr1 : Room 1 _ := hr.mono (by decide)
    refine ⟨_, pss_cons (ps_set (i := 2) scIsTh.nd rfl (.inl rfl) (pe_callTy (call_dictPT rfl) (by rfl) T.dict (by decide +kernel) (pa_cons (pe_fld (pv 0) rfl) pa_nil)))
      (pss_cons (ps_set (i := 3) scIsTh.nd rfl (.inl rfl) (pe_lst (pa_cons (pv 1) pa_nil)))
      (pss_cons (ps_while PassesOwn.never (pt_truth (pv 3) (fun _ => rfl))
        (pss_cons (ps_set (i := 4) scIsTh.nd rfl (.inl rfl) (pe_bm0 PySem.F.plainAttrs_list PySem.F.slot_list_pop PySem.F.type_list_pop mt_pop (pv 3)))
        (pss_one (ps_if (pt_val (pe_callB call_isi (by rfl) T.isi (by decide +kernel) (pa_cons (pv 4) (pa_cons (pe_bltn (v := .ty "tuple") rfl T.tuple (by decide +kernel) rfl) pa_nil))))
          (pss_cons (ps_if (pt_not (pt_val (pe_call GH hr rfl T.gH T.kH bH .nil pass0 (pa_cons (pv 2) (pa_cons (pv 4) pa_nil))))) (pss_one (ps_ret pe_bl)) pss_nil)
          (pss_one (ps_expr (pe_bm PySem.F.plainAttrs_list PySem.F.slot_list_extend PySem.F.type_list_extend mt_extendF (pv 3) (pa_cons (pe_slice sl_tupF (pv 4) (po_some pe_int) po_none) pa_nil)))))
          (pss_one (ps_if (PW.pt (pw_and (pt_not (pt_val (pe_call GW hr1 rfl T.gW T.kW bW .nil pass0 (pa_cons (pv 4) pa_nil)))) (pw_and1 (pt_not (pt_val (pe_call GN hr1 rfl T.gN T.kN bN .nil pass0 (pa_cons (pv 4) pa_nil))))))) (pss_one (ps_ret pe_bl)) pss_nil))))))
      (pss_one (ps_ret pe_bl)))), ?_⟩
    have line : sizeLine = 16777216 := sizeLine_eq
    obtain ⟨dx, kk, oo, ps0, as0, hx, hk, hO⟩ := hb.ex
    refine ⟨_, rfl, x, C, dx, _, _, rfl, hx, T.cl, T.nK, rfl, kk, ps0, _, rfl, hk.at_, paired_kv hk.each, fun cd hcd => ?_⟩
    have cn : Cnt (upd H cd (.dK (mergeK [] (ks.map kvOf)))) cd ks := cnt_new hb.kok.nd
    have s1 : Same H (upd H cd (.dK (mergeK [] (ks.map kvOf)))) := same_new same_rfl hcd
    show Ends.nx _ _ (upd H cd (.dK (mergeK [] (ks.map kvOf))))
    generalize upd H cd (.dK (mergeK [] (ks.map kvOf))) = H1 at cn s1
    refine ⟨_, rfl, (by show 1 ≤ sizeLine; omega), fun p hp => ?_⟩
    have s2 : Same H1 (upd H1 p (.lst [v])) := same_new same_rfl hp
    have np : H p = none := none_same s1 hp
    refine ⟨fun m σ H' => ∃ (us : List V) (R : List PyData) (o4 : Option V), σ = [some (.ref x), some v, some (.ref cd), some (.ref p), o4] ∧ H' p = some (.lst us) ∧ DpAll K H' us R ∧ (∀ r ∈ R, OkT ks r) ∧ Cnt H' cd ks ∧ Same H H' ∧ m = (R.map sz).sum ∧ m ≤ 4000,
      ⟨sz d, [v], [d], none, rfl, upd_same, .cons (dp_same (same_tr s1 s2) d v hd) .nil, (fun r hr => by rw [List.mem_singleton.mp hr]; exact ok), cn.same s2, same_tr s1 s2, by simp, hsz⟩, ?_⟩
    rintro m σ H' ⟨us, R, o4, rfl, ep, dR, okR, cR, sm, em, ml⟩
    have ul := dps_len dR
    refine ⟨_, rfl, !us.isEmpty, .inl ⟨us, SqL.of ep, rfl⟩, ?_⟩
    rcases List.eq_nil_or_concat R with rfl | ⟨R0, r, rfl⟩
    · have : us = [] := List.length_eq_zero_iff.mp ul
      subst this
      exact k H' sm
    · rw [List.concat_eq_append] at *
      obtain ⟨us0, y, rfl, d0, dy⟩ := dps_last dR
      have ne : (!(us0 ++ [y]).isEmpty) = true := by simp
      rw [if_pos ne]
      refine ⟨fun σ' H'' => ∃ m' < m, ∃ (us : List V) (R : List PyData) (o4 : Option V), σ' = [some (.ref x), some v, some (.ref cd), some (.ref p), o4] ∧ H'' p = some (.lst us) ∧ DpAll K H'' us R ∧ (∀ r ∈ R, OkT ks r) ∧ Cnt H'' cd ks ∧ Same H H'' ∧ m' = (R.map sz).sum ∧ m' ≤ 4000, fun σ' H'' ⟨m', lt, z⟩ => ⟨m', lt, z⟩, ?_⟩
      have okr := okR r (List.mem_append_right _ (List.mem_singleton.mpr rfl))
      have ok0 : ∀ r ∈ R0, OkT ks r := fun z hz => okR z (List.mem_append_left _ hz)
      have sz0 : m = (R0.map sz).sum + sz r := by
        rw [em, List.map_append, List.sum_append]
        simp
      refine ⟨_, rfl, .inl ⟨rfl, _, SqL.of ep⟩, p, us0 ++ [y], y, rfl, rfl, ep, by simp, ?_⟩
      have dl : (us0 ++ [y]).dropLast = us0 := by simp
      rw [dl]
      have ep2 : upd H' p (.lst us0) p = some (.lst us0) := upd_same
      have ktp : KT K H' (upd H' p (.lst us0)) := kt_lst ep
      have cp : cd ≠ p := fun z => by
        obtain ⟨kvs, e, _⟩ := cR
        rw [z, ep] at e
        cases e
      have cR2 : Cnt (upd H' p (.lst us0)) cd ks := let ⟨kvs, e, q⟩ := cR; ⟨kvs, (upd_ne cp).trans e, q⟩
      have sm2 : Same H (upd H' p (.lst us0)) := fun b o e => (upd_ne (ne_of_none e np)).trans (sm _ _ e)
      have d02 := ths_kt ktp R0 us0 (okT_ths ok0) d0
      have dy2 := th_kt ktp r y (drawn_th okr.dr) dy
      show Ends.nx _ _ (upd H' p (.lst us0))
      generalize upd H' p (.lst us0) = G at ep2 cR2 sm2 d02 dy2
      rcases th_cases (drawn_th okr.dr) dy2 with ⟨c, rfl, rfl⟩ | ⟨b, c, zs, qs, rfl, rfl, hb2, hzs, qne, _⟩
      · have cLV : c ∈ LV := by simpa [drawn] using okr.dr
        have c8 := lv_len c cLV
        refine ⟨_, rfl, _, _, _, _, false, rfl, .ty "tuple", .base (.str _), kit_ty rfl, _, rfl, ite2 (fun z => absurd z (by decide)) (fun _ => ?_)⟩
        have done : ∀ G', Same G G' → ∃ m' < m, ∃ (us : List V) (R : List PyData) (o4 : Option V), [some (.ref x), some v, some (.ref cd), some (.ref p), some (V.str c)] = [some (.ref x), some v, some (.ref cd), some (.ref p), o4] ∧ G' p = some (.lst us) ∧ DpAll K G' us R ∧ (∀ r ∈ R, OkT ks r) ∧ Cnt G' cd ks ∧ Same H G' ∧ m' = (R.map sz).sum ∧ m' ≤ 4000 := fun G' sg =>
          ⟨(R0.map sz).sum, by rw [sz0, sz_str]; omega, us0, R0, _, rfl, sg _ _ ep2, dps_same sg _ _ d02, ok0, cR2.same sg, same_tr sm2 sg, rfl, by omega⟩
        have wn := lv_isWN c cLV
        refine ⟨_, rfl, _, rfl, .inl ⟨c, rfl, by omega, fun G1 g1 => ⟨_, rfl, ite2 (fun hz => ?_) (fun hz => ?_)⟩⟩⟩
        · have hw : isW c = false := by simpa using hz
          rw [hw, Bool.false_or] at wn
          refine ⟨_, rfl, _, rfl, .inl ⟨c, rfl, by omega, fun G2 g2 => ⟨_, rfl, ite2 (fun hz2 => absurd hz2 (by rw [wn]; decide)) (fun _ => ?_)⟩⟩⟩
          exact done G2 (same_tr g1 g2)
        · exact done G1 g1
      · obtain ⟨hm, hcw, hq⟩ := okr.kid
        have zl := dps_len hzs
        refine ⟨_, rfl, _, _, _, _, true, rfl, .ty "tuple", sqT_ty' hb2, kit_ty rfl, _, rfl, ite2 (fun _ => ?_) (fun z => absurd rfl z)⟩
        refine ⟨_, rfl, _, rfl, cd, b, c, zs, ks, rfl, cR2, hb2, by rw [zl]; exact hm, hcw, fun G1 g1 => ⟨_, rfl, ite2 (fun z => absurd z (by decide)) (fun _ => ?_)⟩⟩
        have ep3 := g1 _ _ ep2
        refine ⟨_, rfl, .inl ⟨rfl, _, SqL.of ep3⟩, _, rfl, _, rfl, b, _, rfl, kt_same g1 _ _ hb2, by simp [HT.sIx], fun q o hq' ho => ?_⟩
        rw [cut1']
        have eq1 : upd G1 q (.frz o (.tup zs)) p = some (.lst us0) := (upd_ne (ne_of_none ep3 hq')).trans ep3
        have szr := sz_tup c qs
        have many : us0.length + zs.length ≤ sizeLine := by
          have l0 := dps_len d02
          have a1 := len_sz R0
          have a2 := len_sz qs
          omega
        refine ⟨p, q, o, us0, zs, rfl, rfl, eq1, upd_same, ho, many, ?_⟩
        have kt1 : KT K G1 (upd (upd G1 q (.frz o (.tup zs))) p (.lst (us0 ++ zs))) := (kt_new hq').tr (kt_lst eq1)
        have kt2 : KT K G (upd (upd G1 q (.frz o (.tup zs))) p (.lst (us0 ++ zs))) := (kt_same g1).tr kt1
        refine ⟨(R0.map sz).sum + (qs.map sz).sum, by omega, us0 ++ zs, R0 ++ qs, _, rfl, upd_same, ?_, ?_, ?_, ?_, by rw [List.map_append, List.sum_append], by omega⟩
        · exact dps_app (ths_kt kt2 _ _ (okT_ths ok0) d02) (ths_kt kt2 _ _ (okT_ths hq) hzs)
        · intro z hz
          rcases List.mem_append.mp hz with hz | hz
          · exact ok0 z hz
          · exact hq z hz
        · obtain ⟨kvs, e, q2⟩ := cR2.same g1
          exact ⟨kvs, (upd_ne cp).trans ((upd_ne (ne_of_none e hq')).trans e), q2⟩
        · exact fun b1 o1 e1 => (upd_ne (ne_of_none e1 np)).trans ((upd_ne (ne_of_none (same_tr sm2 g1 _ _ e1) hq')).trans (same_tr sm2 g1 _ _ e1))
end
end K12

set_option Elab.async false
set_option linter.all false
set_option maxRecDepth 100000
set_option maxHeartbeats 4000000
/-! Row(book, things). -/
namespace K12
open PySem PySem.Spec PyProof.Rows L2 Mine TL
abbrev sRInit : Stmt := inClass (top 49) 0
abbrev fsR (b t n p : Addr) : List (Str × V) := [(PySem.Str.ofString "book", .ref b), (PySem.Str.ofString "things", .ref t), (PySem.Str.ofString "names", .ref n), (PySem.Str.ofString "pieces", .ref p)]
/-- those of the texts that stand in these things and are so -/
structure ThoseL (f : Str → Bool) (ds : List PyData) (ys : List Str) : Prop where
  asc : ys.Pairwise LtS
  mem : ∀ x, x ∈ ys ↔ PyData.str x ∈ ds.flatMap lot ∧ f x = true
/-- drawn things of a book, not too many -/
structure OkR (ks : List (Str × Int)) (ds : List PyData) : Prop where
  each : ∀ d ∈ ds, OkT ks d
  many : (ds.flatMap lot).length ≤ 4000
theorem OkR.szs {ks : List (Str × Int)} {ds : List PyData} (h : OkR ks ds) {d : PyData} (hd : d ∈ ds) : sz d ≤ 4000 := Nat.le_trans (flat_ge hd) h.many
theorem OkR.pieces {ks : List (Str × Int)} {ds : List PyData} (h : OkR ks ds) : ∀ p ∈ ds.flatMap lot, drawn p = true ∧ sz p ≤ 4000 := fun p hp => by
  obtain ⟨d, hd, hp⟩ := List.mem_flatMap.mp hp
  obtain ⟨a, b, _⟩ := drawn_lot _ d (Nat.le_refl _) (h.each d hd).dr p hp
  exact ⟨a, Nat.le_trans b (h.szs hd)⟩
theorem OkR.fits {ks : List (Str × Int)} {ds : List PyData} (h : OkR ks ds) {Q : List PyData} (b : Bfs ds Q) : Fits ds Q := by
  have mem : ∀ p ∈ Q, drawn p = true ∧ sz p ≤ 4000 := fun p hp => h.pieces p (b.perm.mem_iff.mp hp)
  refine ⟨b, fun p hp => drawn_th (mem p hp).1, ?_, fun p hp => ?_⟩
  · rw [b.len]
    exact Nat.le_trans h.many (by decide)
  · have := drawn_txt _ p (Nat.le_refl _) (mem p hp).1
    have := (mem p hp).2
    omega
def spRInit (K : PySem.W.Frag) (CB CR : Addr) : Sp := fun vs H Q _ => ∃ (x dx b t : Addr) (ks : List (Str × Int)) (os : List Opn) (ws : List V) (ds : List PyData), vs = [.ref x, .ref b, .ref t] ∧ H x = some (.ins CR dx []) ∧ BkAt K CB H b ks os ∧ SqT K H t ws ∧ DpAll K H ws ds ∧ OkR ks ds ∧
  ∀ (n p : Addr) (ys : List Str) (ps : List V) (pds : List PyData) (H' : Hp), (∀ b o, b ≠ x → H b = some o → H' b = some o) → H' x = some (.ins CR dx (fsR b t n p)) → H' n = some (.tup (ys.map V.str)) → H' p = some (.tup ps) → DpAll K H' ps pds → ThoseL isN ds ys → AscOf pds (ds.flatMap lot) → Q .non H'
structure TxtRI (K : PySem.W.Frag) (mg : Str → Option Value) (CB CR fI fP fX fA fN : Addr) : Prop where
  clB : Cls K CB
  me : Meth K CB "is_thing" fI
  cl : Cls K CR
  nB : NoAttr K CR "book"
  nT : NoAttr K CR "things"
  nN : NoAttr K CR "names"
  nP : NoAttr K CR "pieces"
  isi : mg "isinstance" = none
  tuple : mg "tuple" = none
  sorted : mg "sorted" = none
  gP : mg "all_pieces" = some (.ref fP)
  kP : PySem.W.keepIn K (.ref fP) = true
  gX : mg "all_texts" = some (.ref fX)
  kX : PySem.W.keepIn K (.ref fX) = true
  gA : mg "ascending" = some (.ref fA)
  kA : PySem.W.keepIn K (.ref fA) = true
  gN : mg "is_name" = some (.ref fN)
  kN : PySem.W.keepIn K (.ref fN) = true
theorem kt_ins {K : PySem.W.Frag} {H : Hp} {x C dx : Addr} {fs gs : List (Str × V)} (h : H x = some (.ins C dx fs)) : KT K H (upd H x (.ins C dx gs)) := fun a zs e => by
  rcases e with (e | ⟨o, e⟩) | e
  · exact .inl (.inl ((upd_ne (ne_of e h (by intro z; cases z))).trans e))
  · exact .inl (.inr ⟨o, (upd_ne (ne_of e h (by intro z; cases z))).trans e⟩)
  · exact .inr e
section
variable {P : Program} {w : World} {K : PySem.W.Frag} {mg : Str → Option Value} {base : Heap}
abbrev nRInit : List Str := ["self", "book", "things", "thing", "pieces", "piece"]
theorem scRInit : FnScope nRInit ["self", "book", "things"] (defScope sRInit) := ⟨rfl, rfl, rfl, by decide +kernel, rfl, by decide +kernel, by decide +kernel⟩
theorem ok_rInit {f CB CR fI fP fX fA fN : Addr} {fd dI dP dX dA dN : FuncData} (F : Fun K "__init__" "Row.__init__" sRInit f fd) (T : TxtRI K mg CB CR fI fP fX fA fN) (GI : FnOk P w K mg base CX0 3 fI dI ["self", "thing"] (spIsTh K CB)) (bI : Binds K dI ["self", "thing"] [])
    (GP : FnOk P w K mg base CX0 1 fP dP ["things"] (spPieces K)) (bP : Binds K dP ["things"] []) (GX : FnOk P w K mg base CX0 1 fX dX ["pieces"] (spTexts K)) (bX : Binds K dX ["pieces"] [])
    (GA : FnOk P w K mg base CX0 1 fA dA ["things", "texts"] (spAscd K)) (bA : Binds K dA ["things", "texts"] []) (GN : FnOk P w K mg base CX0 1 fN dN ["thing"] (spIs K isN)) (bN : Binds K dN ["thing"] []) :
    FnOk P w K mg base CX0 4 f fd ["self", "book", "things"] (spRInit K CB CR) := by
  refine F.ok scRInit (fun vs H Q E h => ?_) (fun cdv A outer s H vs Q E hr h => ?_)
  · obtain ⟨_, _, _, _, _, _, _, _, rfl, _⟩ := h
    rfl
  · obtain ⟨x, dx, b, t, ks, os, ws, ds, rfl, hx, hb, ht, hds, ok, k⟩ := h
    have hr1 : Room 1 _ := hr.mono (by decide)
    refine ⟨_, pss_cons (ps_if (pt_not (pt_val (pe_callB call_isi (by rfl) T.isi (by decide +kernel) (pa_cons (pv 2) (pa_cons (pe_bltn (v := .ty "tuple") rfl T.tuple (by decide +kernel) rfl) pa_nil))))) (pss_one ps_dead) pss_nil)
      (pss_cons (ps_for PassesOwn.never rfl (pi_tup (pv 2)) (pg_name (i := 3) scRInit.nd rfl (.inl rfl)) (pss_one (ps_if (pt_not (pt_val (pe_meth (pv 1) T.clB T.me GI hr bI .nil pass0 (pa_cons (pv 3) pa_nil)))) (pss_one ps_dead) pss_nil)))
      (pss_cons (ps_set (i := 4) scRInit.nd rfl (.inl rfl) (pe_call GP hr1 rfl T.gP T.kP bP .nil pass0 (pa_cons (pv 2) pa_nil)))
      (pss_cons (ps_fld (pv 0) (pv 1) rfl)
      (pss_cons (ps_fld (pv 0) (pv 2) rfl)
      (pss_cons (ps_fld (pv 0) (pe_callTy call_tuple_of (by rfl) T.tuple (by decide +kernel) (pa_cons (pe_callB (cr_sortS rfl) (by rfl) T.sorted (by decide +kernel) (pa_cons (pe_scS (own := [("piece", 5)]) (g := gName 5) rfl scRInit.nd
        (pi_list (pv 4)) (blkOk_by (own := [("piece", 5)]) (N := nRInit) (sc := defScope sRInit) (by decide +kernel))
        (fun _ _ _ _ _ => pg_name (i := 5) scRInit.nd rfl (Or.inl rfl)) (fun _ _ _ _ _ => pts_one (pt_val (pe_call GN hr1 rfl T.gN T.kN bN .nil pass0 (pa_cons (pv 5) pa_nil)))) (fun _ _ _ _ _ => pv 5)) pa_nil)) pa_nil)) rfl)
      (pss_one (ps_fld (pv 0) (pe_call GA hr1 rfl T.gA T.kA bA .nil pass0 (pa_cons (pv 4) (pa_cons (pe_call GX hr1 rfl T.gX T.kX bX .nil pass0 (pa_cons (pv 4) pa_nil)) pa_nil))) rfl))))))), ?_⟩
    have line : sizeLine = 16777216 := sizeLine_eq
    have wl := dps_len hds
    refine ⟨_, rfl, _, _, _, _, true, rfl, .ty "tuple", sqT_ty' ht, kit_ty rfl, _, rfl, ite2 (fun z => absurd z (by decide)) (fun _ => ?_)⟩
    refine ⟨_, rfl, t, rfl, ⟨_, ht⟩, ?_⟩
    refine for_tup (K := K) (a := t) (xs := ws) (fun i σ H' => ∃ o3, σ = [some (.ref x), some (.ref b), some (.ref t), o3, none, none] ∧ Same H H') ⟨none, rfl, same_rfl⟩ (fun i σ H' _ ⟨_, _, z⟩ => kt_same z _ _ ht) ?_ ?_
    · rintro i y σ H' hi ⟨o3, rfl, sm⟩
      have il : i < ws.length := (List.getElem?_eq_some_iff.mp hi).1
      have hd : ds[i]? = some ds[i] := List.getElem?_eq_getElem (by omega)
      obtain ⟨y', hy', dy⟩ := dps_at hds hd
      rw [hi] at hy'
      cases hy'
      generalize ds[i] = d at hd dy
      have md := List.mem_of_getElem? hd
      obtain ⟨dxb, kk, oo, ps0, as0, hxb, _⟩ := hb.ex
      refine ⟨_, rfl, b, dxb, _, rfl, sm _ _ hxb, rfl, _, rfl, b, y, ks, os, d, rfl, hb.same sm, dp_same sm d y dy, ok.each d md, ok.szs md, fun H2 s2 => ⟨_, rfl, ite2 (fun z => absurd z (by decide)) fun _ => ⟨_, rfl, same_tr sm s2⟩⟩⟩
    · rintro σ H0 ⟨o3, rfl, s0⟩
      refine ⟨_, rfl, t, ws, ds, rfl, .inr (kt_same s0 _ _ ht), dps_same s0 _ _ hds, (fun z hz => drawn_th (ok.each z hz).dr), Nat.le_trans ok.many (by decide), fun q Ps us H1 s1 nq eq dp bf => ?_⟩
      have fit := ok.fits bf
      have many : Ps.length ≤ 4000 := by rw [bf.len]; exact ok.many
      have mem : ∀ p, p ∈ Ps ↔ p ∈ ds.flatMap lot := fun p => bf.perm.mem_iff
      have pw : ∀ p ∈ Ps, drawn p = true ∧ sz p ≤ 4000 := fun p hp => ok.pieces p ((mem p).mp hp)
      have thP : thingAll Ps = true := thingAll_iff.mpr fun p hp => drawn_th (pw p hp).1
      have ul := dps_len dp
      have s01 := same_tr s0 s1
      have hx1 := s01 _ _ hx
      refine ⟨_, rfl, _, rfl, x, CR, dx, [], rfl, hx1, T.cl, T.nB, (by show 0 < 1000; decide), _, rfl, _, rfl, x, CR, dx, _, rfl, upd_same, T.cl, T.nT, (by show 1 < 1000; decide), ?_⟩
      rw [upd_upd]
      have qx : q ≠ x := ne_of eq hx1 (by intro z; cases z)
      show Ends.nx _ _ (upd H1 x (.ins CR dx [(PySem.Str.ofString "book", .ref b), (PySem.Str.ofString "things", .ref t)]))
      have hxG : upd H1 x (.ins CR dx [(PySem.Str.ofString "book", .ref b), (PySem.Str.ofString "things", .ref t)]) x = some (.ins CR dx [(PySem.Str.ofString "book", .ref b), (PySem.Str.ofString "things", .ref t)]) := upd_same
      have eqG := (upd_ne (o := .ins CR dx [(PySem.Str.ofString "book", .ref b), (PySem.Str.ofString "things", .ref t)]) qx).trans eq
      have dpG := ths_kt (kt_ins (gs := [(PySem.Str.ofString "book", .ref b), (PySem.Str.ofString "things", .ref t)]) hx1) Ps us thP dp
      have offG : ∀ c o, c ≠ x → H c = some o → upd H1 x (.ins CR dx [(PySem.Str.ofString "book", .ref b), (PySem.Str.ofString "things", .ref t)]) c = some o := fun c o hc e => (upd_ne hc).trans (s01 _ _ e)
      generalize upd H1 x (.ins CR dx [(PySem.Str.ofString "book", .ref b), (PySem.Str.ofString "things", .ref t)]) = G0 at hxG eqG dpG offG
      -- the names
      refine ⟨_, rfl, q, rfl, ⟨_, SqL.of eqG⟩, fun D hD => ?_⟩
      refine scS_list (K := K) (a := q) (xs := us) (fun i H' => ∃ l : List Str, H' D = some (SetSO P w D l) ∧ (∀ x, x ∈ l ↔ PyData.str x ∈ Ps.take i ∧ isN x = true) ∧ l.length ≤ i ∧ Same G0 H')
        ⟨[], upd_same, fun x => by simp, Nat.le_refl _, same_new same_rfl hD⟩ (fun i H' _ ⟨_, _, _, _, z⟩ => SqL.of (z _ _ eqG)) ?_ ?_
      · rintro i y H' hi ⟨l, eD, ml, ll, sm1⟩
        have il : i < us.length := (List.getElem?_eq_some_iff.mp hi).1
        have hx0 : Ps[i]? = some Ps[i] := List.getElem?_eq_getElem (by omega)
        obtain ⟨y', hy', dy⟩ := dps_at dpG hx0
        rw [hi] at hy'
        cases hy'
        generalize Ps[i] = d at hx0 dy
        have tx := fit.things d (List.mem_of_getElem? hx0)
        have tk : Ps.take (i + 1) = Ps.take i ++ [d] := by rw [List.take_add_one, hx0]; rfl
        have room : l.length + 1 < scanBound := by
          show l.length + 1 < 4096
          omega
        rcases th_cases tx dy with ⟨c, rfl, rfl⟩ | ⟨b', c, zs, ps, rfl, rfl, hb', _, _, _⟩
        · have cl : c.length ≤ sizeLine := by
            have := fit.long _ (List.mem_of_getElem? hx0)
            rw [txt_str] at this
            omega
          refine ⟨rfl, _, rfl, _, rfl, .inl ⟨c, rfl, cl, fun H2 s2 => ⟨_, rfl, ite2 (fun hc => ?_) (fun hc => ?_)⟩⟩⟩
          · refine ⟨_, rfl, c, l, rfl, s2 _ _ eD, room, insS l c, upd_same, fun z => ?_, Nat.le_trans insS_len (by omega), fun b1 o1 e1 => (upd_ne (ne_of_none e1 hD)).trans (s2 _ _ (sm1 _ _ e1))⟩
            rw [mem_insS, ml, tk, List.mem_append, List.mem_singleton]
            constructor
            · rintro (rfl | ⟨z1, z2⟩)
              · exact ⟨.inr rfl, hc⟩
              · exact ⟨.inl z1, z2⟩
            · rintro ⟨z1 | z1, z2⟩
              · exact .inr ⟨z1, z2⟩
              · exact .inl (PyData.str.inj z1)
          · refine ⟨l, s2 _ _ eD, fun z => ?_, by omega, same_tr sm1 s2⟩
            rw [ml, tk, List.mem_append, List.mem_singleton]
            constructor
            · rintro ⟨z1, z2⟩
              exact ⟨.inl z1, z2⟩
            · rintro ⟨z1 | z1, z2⟩
              · exact ⟨z1, z2⟩
              · rw [PyData.str.inj z1] at z2
                exact absurd z2 hc
        · refine ⟨rfl, _, rfl, _, rfl, .inr ⟨⟨_, sqT_ty' (((kt_same sm1) _ _ hb')), kit_ty rfl⟩, fun H2 s2 => ⟨_, rfl, ite2 (fun z => absurd z (by decide)) (fun _ => ?_)⟩⟩⟩
          refine ⟨l, s2 _ _ eD, fun z => ?_, by omega, same_tr sm1 s2⟩
          rw [ml, tk, List.mem_append, List.mem_singleton]
          constructor
          · rintro ⟨z1, z2⟩
            exact ⟨.inl z1, z2⟩
          · rintro ⟨z1 | z1, z2⟩
            · exact ⟨z1, z2⟩
            · cases z1
      rintro H' ⟨l, eD, ml, ll, sm1⟩
      rw [List.take_of_length_le (by omega)] at ml
      refine ⟨D, l, rfl, eD, by omega, fun ys q2 perm nd srt nq2 => ?_⟩
      refine ⟨q2, _, rfl, .inl ⟨SqL.of upd_same, fun t2 ht2 => ?_⟩⟩
      have th : ThoseL isN ds ys := ⟨asc_sorted srt (perm.nodup_iff.mpr nd), fun z => by rw [perm.mem_iff, ml, mem]⟩
      have sA : Same G0 (upd (upd H' q2 (.lst (ys.map V.str))) t2 (.tup (ys.map V.str))) := same_new (same_new sm1 nq2) ht2
      have et2 : upd (upd H' q2 (.lst (ys.map V.str))) t2 (.tup (ys.map V.str)) t2 = some (.tup (ys.map V.str)) := upd_same
      generalize upd (upd H' q2 (.lst (ys.map V.str))) t2 (.tup (ys.map V.str)) = G1 at sA et2
      have hxG1 := sA _ _ hxG
      refine ⟨_, rfl, x, CR, dx, _, rfl, hxG1, T.cl, T.nN, (by show 2 < 1000; decide), ?_⟩
      have t2x : t2 ≠ x := ne_of et2 hxG1 (by intro z; cases z)
      show Ends.nx _ _ (upd G1 x (.ins CR dx [(PySem.Str.ofString "book", .ref b), (PySem.Str.ofString "things", .ref t), (PySem.Str.ofString "names", .ref t2)]))
      have hxG2 : upd G1 x (.ins CR dx [(PySem.Str.ofString "book", .ref b), (PySem.Str.ofString "things", .ref t), (PySem.Str.ofString "names", .ref t2)]) x = some (.ins CR dx [(PySem.Str.ofString "book", .ref b), (PySem.Str.ofString "things", .ref t), (PySem.Str.ofString "names", .ref t2)]) := upd_same
      have eqG2 := (upd_ne (o := .ins CR dx [(PySem.Str.ofString "book", .ref b), (PySem.Str.ofString "things", .ref t), (PySem.Str.ofString "names", .ref t2)]) qx).trans (sA _ _ eqG)
      have et3 := (upd_ne (o := .ins CR dx [(PySem.Str.ofString "book", .ref b), (PySem.Str.ofString "things", .ref t), (PySem.Str.ofString "names", .ref t2)]) t2x).trans et2
      have dpG2 := ths_kt (kt_ins (gs := [(PySem.Str.ofString "book", .ref b), (PySem.Str.ofString "things", .ref t), (PySem.Str.ofString "names", .ref t2)]) hxG1) Ps us thP (dps_same sA _ _ dpG)
      have offG2 : ∀ c o, c ≠ x → H c = some o → upd G1 x (.ins CR dx [(PySem.Str.ofString "book", .ref b), (PySem.Str.ofString "things", .ref t), (PySem.Str.ofString "names", .ref t2)]) c = some o := fun c o hc e => (upd_ne hc).trans (sA _ _ (offG c o hc e))
      generalize upd G1 x (.ins CR dx [(PySem.Str.ofString "book", .ref b), (PySem.Str.ofString "things", .ref t), (PySem.Str.ofString "names", .ref t2)]) = G2 at hxG2 eqG2 et3 dpG2 offG2
      -- the pieces
      refine ⟨_, rfl, _, rfl, q, us, ds, Ps, rfl, eqG2, dpG2, fit, fun r H3 s3 nr er => ?_⟩
      refine ⟨q, r, us, Ps, rfl, SqL.of (s3 _ _ eqG2), dps_same s3 _ _ dpG2, SqL.of er, (fun p hp => drawn_thing _ p (Nat.le_refl _) (pw p hp).1), by omega, fun a4 ws4 ds4 H4 s4 na ea da asc => ?_⟩
      have s34 := same_tr s3 s4
      have hx4 := s34 _ _ hxG2
      refine ⟨_, rfl, x, CR, dx, _, rfl, hx4, T.cl, T.nP, (by show 3 < 1000; decide), ?_⟩
      have a4x : a4 ≠ x := ne_of ea hx4 (by intro z; cases z)
      have th4 : thingAll ds4 = true := thingAll_iff.mpr fun z hz => drawn_th (pw z ((asc.mem z).mp hz)).1
      exact k t2 a4 ys ws4 ds4 _ (fun c o hc e => (upd_ne hc).trans (s34 _ _ (offG2 c o hc e))) upd_same ((upd_ne t2x).trans (s34 _ _ et3)) ((upd_ne a4x).trans ea) (ths_kt (kt_ins hx4) ds4 ws4 th4 da) th ⟨asc.asc, fun z => (asc.mem z).trans (mem z)⟩
end
end K12

set_option Elab.async false
set_option linter.all false
set_option maxRecDepth 100000
set_option maxHeartbeats 4000000
/-! Rows that stand; their texts; == of rows. -/
namespace K12
open PySem PySem.Spec PyProof.Rows L2 Mine TL SkE StX
abbrev sTextsOf : Stmt := top 19
abbrev sRStr : Stmt := inClass (top 49) 2
abbrev sREq : Stmt := inClass (top 49) 1
structure RowAt (K : PySem.W.Frag) (CB CR : Addr) (H : Hp) (r : Addr) (ks : List (Str × Int)) (os : List Opn) (ds : List PyData) : Prop where
  ex : ∃ (dx b t n p : Addr) (ws ps : List V) (pds : List PyData) (ys : List Str), H r = some (.ins CR dx (fsR b t n p)) ∧ BkAt K CB H b ks os ∧ SqT K H t ws ∧ DpAll K H ws ds ∧ H n = some (.tup (ys.map V.str)) ∧ H p = some (.tup ps) ∧ DpAll K H ps pds ∧ ThoseL isN ds ys ∧ AscOf pds (ds.flatMap lot)
  ok : OkR ks ds
theorem RowAt.same {K : PySem.W.Frag} {CB CR : Addr} {H H' : Hp} {r : Addr} {ks : List (Str × Int)} {os : List Opn} {ds : List PyData} (h : RowAt K CB CR H r ks os ds) (s : Same H H') : RowAt K CB CR H' r ks os ds :=
  let ⟨dx, b, t, n, p, ws, ps, pds, ys, h1, h2, h3, h4, h5, h6, h7, h8, h9⟩ := h.ex
  ⟨⟨dx, b, t, n, p, ws, ps, pds, ys, s _ _ h1, h2.same s, kt_same s _ _ h3, dps_same s _ _ h4, s _ _ h5, s _ _ h6, dps_same s _ _ h7, h8, h9⟩, h.ok⟩
def rowT (ds : List PyData) : Str := Txt.join nlS ((Str.empty ++ PySem.Str.ofString "row " ++ num (ds.length : Nat)) :: ds.map txt)
def spTextsOf (K : PySem.W.Frag) : Sp := fun vs H Q _ => ∃ (a : Addr) (ws : List V) (ds : List PyData) (ks : List (Str × Int)), vs = [.ref a] ∧ SqT K H a ws ∧ DpAll K H ws ds ∧ OkR ks ds ∧ ∀ (q : Addr) (H' : Hp), Same H H' → H q = none → H' q = some (.lst ((ds.map txt).map V.str)) → Q (.ref q) H'
structure TxtTO (K : PySem.W.Frag) (mg : Str → Option Value) (fP fX : Addr) : Prop where
  len : mg "len" = none
  gP : mg "all_pieces" = some (.ref fP)
  kP : PySem.W.keepIn K (.ref fP) = true
  gX : mg "all_texts" = some (.ref fX)
  kX : PySem.W.keepIn K (.ref fX) = true
def spRStr (K : PySem.W.Frag) (CB CR : Addr) : Sp := fun vs H Q _ => ∃ (r : Addr) (ks : List (Str × Int)) (os : List Opn) (ds : List PyData), vs = [.ref r] ∧ RowAt K CB CR H r ks os ds ∧ ds.length ≤ 20 ∧ ∀ H', Same H H' → Q (.str (rowT ds)) H'
structure TxtRS (K : PySem.W.Frag) (mg : Str → Option Value) (CR fT : Addr) : Prop where
  cl : Cls K CR
  nT : NoAttr K CR "things"
  len : mg "len" = none
  gT : mg "texts_of" = some (.ref fT)
  kT : PySem.W.keepIn K (.ref fT) = true
theorem num20 : ∀ n ≤ 20, (num ((n : Nat) : Int)).length ≤ 8 := by decide +kernel
theorem log20 : ∀ n ≤ 20, (((n : Nat) : Int)).natAbs.log2 < 1920 := by decide +kernel
theorem sum_leS {l : List Str} {c : Nat} (h : ∀ x ∈ l, x.length ≤ c) : (l.map (·.length)).sum ≤ c * l.length := by
  induction l with
  | nil => simp
  | cons x l ih =>
    have h1 := h x (List.mem_cons_self ..)
    have h2 := ih fun y hy => h y (List.mem_cons_of_mem _ hy)
    rw [List.map_cons, List.sum_cons, List.length_cons, Nat.mul_succ]
    omega
section
variable {P : Program} {w : World} {K : PySem.W.Frag} {mg : Str → Option Value} {base : Heap}
theorem scTextsOf : FnScope ["things"] ["things"] (defScope sTextsOf) := ⟨rfl, rfl, rfl, by decide +kernel, rfl, by decide +kernel, by decide +kernel⟩
theorem ok_textsOf {f fP fX : Addr} {fd dP dX : FuncData} (F : Fun K "texts_of" "texts_of" sTextsOf f fd) (T : TxtTO K mg fP fX) (GP : FnOk P w K mg base CX0 1 fP dP ["things"] (spPieces K)) (bP : Binds K dP ["things"] []) (GX : FnOk P w K mg base CX0 1 fX dX ["pieces"] (spTexts K)) (bX : Binds K dX ["pieces"] []) : FnOk P w K mg base CX0 2 f fd ["things"] (spTextsOf K) := by
  refine F.ok scTextsOf (fun vs H Q E h => ?_) (fun cdv A outer s H vs Q E hr h => ?_)
  · obtain ⟨_, _, _, _, rfl, _⟩ := h
    rfl
  · obtain ⟨a, ws, ds, ks, rfl, ha, hd, ok, k⟩ := h
    refine ⟨_, pss_one (ps_ret (pe_slice sl_list (pe_call GX hr rfl T.gX T.kX bX .nil pass0 (pa_cons (pe_call GP hr rfl T.gP T.kP bP .nil pass0 (pa_cons (pv 0) pa_nil)) pa_nil)) po_none (po_some (pe_callB call_len_seq (by rfl) T.len PySem.boot_len (pa_cons (pv 0) pa_nil))))), ?_⟩
    have wl := dps_len hd
    refine ⟨_, rfl, a, ws, ds, rfl, .inr ha, hd, (fun z hz => drawn_th (ok.each z hz).dr), Nat.le_trans ok.many (by decide), fun q Ps us H1 s1 nq eq dp bf => ?_⟩
    refine ⟨q, us, ds, Ps, rfl, eq, dp, ok.fits bf, fun r H2 s2 nr er => ?_⟩
    refine ⟨_, rfl, a, _, rfl, .inr (kt_same (same_tr s1 s2) _ _ ha), _, rfl, r, _, rfl, SqL.of er, fun p hp => ?_⟩
    refine k p _ (same_new (same_tr s1 s2) hp) (none_same (same_tr s1 s2) hp) ?_
    rw [upd_same]
    congr 2
    unfold cutV
    have e0 := bf.eq
    have len : ds.length ≤ Ps.length := by
      have := congrArg List.length e0
      rw [List.length_append] at this
      omega
    rw [HT.sIx_none, HT.sIx_nat, List.length_map, List.length_map, Nat.min_eq_left (by omega), List.drop_zero, Nat.sub_zero, wl]
    conv => lhs; rw [e0]
    rw [List.map_append, List.map_append, List.take_left' (by simp)]
theorem scRStr : FnScope ["self"] ["self"] (defScope sRStr) := ⟨rfl, rfl, rfl, by decide +kernel, rfl, by decide +kernel, by decide +kernel⟩
theorem ok_rStr {f CB CR fT : Addr} {fd dT : FuncData} (F : Fun K "__str__" "Row.__str__" sRStr f fd) (T : TxtRS K mg CR fT) (GT : FnOk P w K mg base CX0 2 fT dT ["things"] (spTextsOf K)) (bT : Binds K dT ["things"] []) : FnOk P w K mg base CX0 3 f fd ["self"] (spRStr K CB CR) := by
  refine F.ok scRStr (fun vs H Q E h => ?_) (fun cdv A outer s H vs Q E hr h => ?_)
  · obtain ⟨_, _, _, _, rfl, _⟩ := h
    rfl
  · obtain ⟨r, ks, os, ds, rfl, R, l20, k⟩ := h
    obtain ⟨dx, b, t, n, p, ws, ps, pds, ys, h1, h2, h3, h4, h5, h6, h7, h8, h9⟩ := R.ex
    refine ⟨_, pss_one (ps_ret (pe_m1 PySem.F.slot_str_join PySem.F.type_str_join mt_join pe_str (pe_lst (pa_cons (pe_joined (PJ.cons pe_str (PJ.cons (pe_fmt (pe_callB call_len_seq (by rfl) T.len PySem.boot_len (pa_cons (pe_fld (pv 0) rfl) pa_nil))) PJ.nil)))
      (pa_star (pe_call GT hr rfl T.gT T.kT bT .nil pass0 (pa_cons (pe_fld (pv 0) rfl) pa_nil)) pa_nil))))), ?_⟩
    have line : sizeLine = 16777216 := sizeLine_eq
    have wl := dps_len h4
    have e0 : Str.empty.length = 0 := by decide +kernel
    have e1 : (PySem.Str.ofString "row ").length = 4 := by decide +kernel
    have n8 := num20 ds.length l20
    refine ⟨⟨_, rfl⟩, _, rfl, (by rw [strLen_append]; omega), ?_⟩
    have lg := log20 ds.length l20
    refine ⟨_, rfl, r, CR, dx, _, _, rfl, h1, T.cl, T.nT, rfl, t, ws, rfl, .inr h3, .inr ⟨(ws.length : Nat), rfl, by rw [wl]; exact lg, _, rfl, ?_⟩⟩
    have numE : PySem.Str.ofString (toString ((ws.length : Nat) : Int)) = num (ds.length : Nat) := by rw [wl]; rfl
    rw [numE]
    refine ⟨by rw [strLen_append, strLen_append]; omega, ?_⟩
    refine ⟨_, rfl, r, CR, dx, _, _, rfl, h1, T.cl, T.nT, rfl, t, ws, ds, ks, rfl, h3, h4, R.ok, fun q H1 s1 nq eq => ?_⟩
    refine ⟨q, _, rfl, .inr (SqL.of eq), (by simp only [List.length_append, List.length_map, List.length_cons, List.length_nil]; omega), fun l hl => ?_⟩
    have b1 : ∀ y ∈ ((Str.empty ++ PySem.Str.ofString "row " ++ num (ds.length : Nat)) :: ds.map txt), y.length ≤ 50000 := fun y hy => by
      rcases List.mem_cons.mp hy with rfl | hy
      · rw [strLen_append, strLen_append]
        omega
      · obtain ⟨d, hd, rfl⟩ := List.mem_map.mp hy
        have := drawn_txt _ d (Nat.le_refl _) (R.ok.each d hd).dr
        have := R.ok.szs hd
        omega
    have b2 := sum_leS b1
    have b3 : (PySem.Str.ofString "\n").length = 1 := by decide +kernel
    refine ⟨_, l, ((Str.empty ++ PySem.Str.ofString "row " ++ num (ds.length : Nat)) :: ds.map txt), rfl, rfl, .inl (SqL.of ?_), ?_, k _ (same_new s1 hl)⟩
    · rw [upd_same]
      simp
    · rw [List.length_cons, List.length_map] at b2 ⊢
      rw [b3]
      omega
/-- two rows that are equal -/
def AlikeR (K : PySem.W.Frag) (CB CR : Addr) (a b : Addr) (H : Hp) : Prop := ∃ ks os ds, RowAt K CB CR H a ks os ds ∧ RowAt K CB CR H b ks os ds ∧ ds.length ≤ 20
structure TxtRE (K : PySem.W.Frag) (mg : Str → Option Value) (CB CR fE fS : Addr) : Prop where
  cl : Cls K CR
  nB : NoAttr K CR "book"
  isi : mg "isinstance" = none
  str : mg "str" = none
  gR : mg "Row" = some (.ref CR)
  ha : PySem.W.findIn K (.ref CR) "__class__" = some (some (.builtin "object.__class__"))
  hn : PySem.W.specialIn K (.builtin "object.__class__") "__get__" = some (some (.builtin "getset_descriptor.__get__"))
  ht : PySem.W.takesIn K (.builtin "object.__class__") = some true
  hm : PySem.W.mroIn K CR (.type "object") = some true
  aE : PySem.W.findIn K (.ref CB) "__eq__" = some (some (.ref fE))
  iE : PySem.W.isFn K (.ref fE) = true
  aS : PySem.W.findIn K (.ref CR) "__str__" = some (some (.ref fS))
  iS : PySem.W.isFn K (.ref fS) = true
end
end K12

set_option Elab.async false
set_option linter.all false
set_option maxRecDepth 100000
set_option maxHeartbeats 4000000
/-! == of rows. -/
namespace K12
open PySem PySem.Spec PyProof.Rows L2 Mine TL SkE StX
section
variable {P : Program} {w : World} {K : PySem.W.Frag} {mg : Str → Option Value} {base : Heap}
theorem scREq : FnScope ["self", "other"] ["self", "other"] (defScope sREq) := ⟨rfl, rfl, rfl, by decide +kernel, rfl, by decide +kernel, by decide +kernel⟩
theorem ok_rEq {f CB CR fE fS : Addr} {fd dE dS : FuncData} (F : Fun K "__eq__" "Row.__eq__" sREq f fd) (T : TxtRE K mg CB CR fE fS) (GE : FnOk P w K mg base CX0 1 fE dE ["self", "other"] (spEq (Alike K CB))) (bE : Binds K dE ["self", "other"] [])
    (GS : FnOk P w K mg base CX0 3 fS dS ["self"] (spRStr K CB CR)) (bS : Binds K dS ["self"] []) : FnOk P w K mg base CX0 6 f fd ["self", "other"] (spEq (AlikeR K CB CR)) := by
  refine F.ok scREq (fun vs H Q E h => ?_) (fun cdv A outer s H vs Q E hr h => ?_)
  · obtain ⟨_, _, rfl, _⟩ := h
    rfl
  · obtain ⟨a, b, rfl, ⟨ks, os, ds, A1, B1, l20⟩, k⟩ := h
    have hr1 : Room 1 _ := hr.mono (by decide)
    obtain ⟨dx, b1, t1, n1, p1, ws1, ps1, pds1, ys1, h1, h2, h3, _⟩ := A1.ex
    obtain ⟨dy, b2, t2, n2, p2, ws2, ps2, pds2, ys2, g1, g2, g3, _⟩ := B1.ex
    obtain ⟨dxb, kk, oo, pp, as, hb1, _⟩ := h2.ex
    obtain ⟨dyb, kk', oo', pp', as', hb2, _⟩ := g2.ex
    refine ⟨_, pss_one (ps_ret (pe_and (pe_callB call_isi (by rfl) T.isi (by decide +kernel) (pa_cons (pv 1) (pa_cons (pe_glob (v := .ref CR) rfl T.gR rfl) pa_nil)))
      (pe_and (pe_cmpR (op_eqG (rcG_ins GE T.aE T.iE bE pass0) hr1) (pe_fld (pv 0) rfl) (pe_fld (pv 1) rfl) (nomark _))
      (pe_one (pe_cmpR op_eq (pe_callTy (call_strOwn GS hr T.aS T.iS bS) (by rfl) T.str (by decide +kernel) (pa_cons (pv 0) pa_nil)) (pe_callTy (call_strOwn GS hr T.aS T.iS bS) (by rfl) T.str (by decide +kernel) (pa_cons (pv 1) pa_nil)) (nomark _)))))), ?_⟩
    refine ⟨_, rfl, _, _, _, _, true, rfl, .own CR, .base (.ins g1 T.cl T.ha T.hn T.ht T.hm), kit_me, _, rfl, ite2 (fun _ => ?_) (fun z => absurd rfl z)⟩
    refine ⟨_, rfl, a, CR, dx, _, _, rfl, h1, T.cl, T.nB, rfl, _, rfl, b, CR, dy, _, _, rfl, g1, T.cl, T.nB, rfl, ⟨b1, b2, _, _, _, _, rfl, rfl, hb1, hb2, ks, os, h2, g2⟩, fun H1 s1 => ⟨_, rfl, ite2 (fun _ => ?_) (fun z => absurd rfl z)⟩⟩
    refine ⟨_, rfl, a, dx, _, rfl, s1 _ _ h1, a, ks, os, ds, rfl, A1.same s1, l20, fun H2 s2 => ⟨_, rfl, ?_⟩⟩
    have s12 := same_tr s1 s2
    refine ⟨_, rfl, b, dy, _, rfl, s12 _ _ g1, b, ks, os, ds, rfl, B1.same s12, l20, fun H3 s3 => ⟨_, rfl, rfl, ?_⟩⟩
    rw [decide_eq_true rfl]
    exact k _ (same_tr s12 s3)
end
end K12

set_option Elab.async false
set_option linter.all false
set_option maxRecDepth 100000
set_option maxHeartbeats 4000000
/-! The signs of a thing's text, cut at brackets and commas, and the thing made of them again. -/
namespace K12
open PySem PySem.Spec PyProof.Rows L2 Mine TL
abbrev mkS (l : List Nat) : Str := ⟨l.toArray⟩
theorem mk_tl (x : Str) : mkS (tl x) = x := by
  cases x
  simp [mkS, tl]
theorem tl_mk (l : List Nat) : tl (mkS l) = l := by simp [mkS, tl]
def brkB (c : Nat) : Bool := decide (c = 40 ∨ c = 41 ∨ c = 44)
/-- what is cut, the first part begun -/
def scan : List Nat → List Nat → List Str
  | cur, [] => [mkS cur]
  | cur, c :: r => if brkB c = true then mkS cur :: mkS [c] :: scan [] r else scan (cur ++ [c]) r
def neS (x : Str) : Bool := decide (x.length ≠ 0)
abbrev fil (l : List Str) : List Str := l.filter neS
theorem scan_free : ∀ {a cur r : List Nat}, (∀ c ∈ a, ¬ brk c) → scan cur (a ++ r) = scan (cur ++ a) r
  | [], cur, r, _ => by rw [List.append_nil, List.nil_append]
  | x :: a, cur, r, h => by
    have nb : ¬ brkB x = true := fun z => h x (List.mem_cons_self ..) (of_decide_eq_true (p := x = 40 ∨ x = 41 ∨ x = 44) z)
    rw [List.cons_append]
    show (if brkB x = true then _ else scan (cur ++ [x]) (a ++ r)) = _
    rw [if_neg nb, scan_free fun c hc => h c (List.mem_cons_of_mem _ hc), List.append_assoc]
    rfl
theorem scan_brk {c : Nat} {cur r : List Nat} (h : brk c) : scan cur (c :: r) = mkS cur :: mkS [c] :: scan [] r := by
  show (if brkB c = true then mkS cur :: mkS [c] :: scan [] r else _) = _
  rw [if_pos (show brkB c = true from decide_eq_true (p := c = 40 ∨ c = 41 ∨ c = 44) h)]
theorem fil_end : fil (scan [] []) = [] := by decide +kernel
theorem fil_brk {c : Nat} {r : List Nat} (h : brk c) : fil (scan [] (c :: r)) = mkS [c] :: fil (scan [] r) := by
  rw [scan_brk h]
  rfl
theorem ne_of_len {x : Str} (h : 1 ≤ x.length) : neS x = true := decide_eq_true (by omega)
theorem fil_word {x : Str} {r : List Nat} (hx : okS x = true) (h1 : 1 ≤ x.length) (hr : AtBrk r) : fil (scan [] (tl x ++ r)) = x :: fil (scan [] r) := by
  rw [scan_free (okS_free hx), List.nil_append]
  cases r with
  | nil =>
    show fil [mkS (tl x)] = _
    rw [mk_tl, fil_end]
    unfold fil
    rw [List.filter_cons_of_pos (ne_of_len h1)]
    rfl
  | cons c r =>
    rw [scan_brk (hr c r rfl), fil_brk (hr c r rfl), mk_tl]
    unfold fil
    rw [List.filter_cons_of_pos (ne_of_len h1), List.filter_cons_of_pos (by rfl)]
theorem lv_pos : ∀ x ∈ LV, 1 ≤ x.length := by decide +kernel
theorem w8_pos : ∀ x ∈ W8, 1 ≤ x.length := by decide +kernel
abbrev sOp : Str := PySem.Str.ofString "("
abbrev sCl : Str := PySem.Str.ofString ")"
abbrev sCm : Str := PySem.Str.ofString ","
theorem mk40 : mkS [40] = sOp := by decide +kernel
theorem mk41 : mkS [41] = sCl := by decide +kernel
theorem mk44 : mkS [44] = sCm := by decide +kernel
mutual
/-- the parts of a thing's text -/
def tok : PyData → List Str
  | .str x => [x]
  | .tuple (.str c :: p :: ps) => c :: sOp :: (tok p ++ (tokR ps ++ [sCl]))
  | _ => []
def tokR : List PyData → List Str
  | [] => []
  | q :: qs => sCm :: (tok q ++ tokR qs)
end
/-- the signs of things with a comma ahead of each -/
def cms : List PyData → List Nat
  | [] => []
  | q :: qs => 44 :: (tx q ++ cms qs)
theorem join_cms : ∀ (p : PyData) (ps : List PyData), joinL [44] ((p :: ps).map tx) = tx p ++ cms ps
  | p, [] => by simp [joinL, cms]
  | p, q :: qs => by
    have := join_cms q qs
    rw [List.map_cons] at this ⊢
    rw [List.map_cons]
    show tx p ++ ([44] ++ joinL [44] (tx q :: qs.map tx)) = _
    rw [this]
    simp [cms]
theorem scan_thing : ∀ (n : Nat) (d : PyData), sz d ≤ n → drawn d = true → ∀ r, AtBrk r → fil (scan [] (tx d ++ r)) = tok d ++ fil (scan [] r)
  | 0, d, s, _, _, _ => absurd s (by have := sz_pos d; omega)
  | n + 1, d, s, dr, r, hr => by
    rcases drawn_cases dr with ⟨c, rfl, hc⟩ | ⟨c, ps, rfl, ne, hc, hps⟩
    · have e : tx (.str c) = tl c := by show tl (txt _) = _; rw [txt_str]
      rw [e, fil_word (lv_okS c hc) (lv_pos c hc) hr]
      simp [tok]
    · cases ps with
      | nil => exact absurd rfl ne
      | cons p ps =>
        have sk : ∀ q ∈ p :: ps, sz q ≤ n := fun q hq => by
          have := kid_sz (d := .tuple (.str c :: p :: ps)) (p := q) hq
          omega
        have rest : ∀ qs : List PyData, (∀ q ∈ qs, q ∈ p :: ps) → fil (scan [] (cms qs ++ 41 :: r)) = tokR qs ++ sCl :: fil (scan [] r) := by
          intro qs
          induction qs with
          | nil =>
            intro _
            show fil (scan [] (41 :: r)) = _
            rw [fil_brk (.inr (.inl rfl)), mk41]
            simp [tokR]
          | cons q qs ih =>
            intro h
            have hq := h q (List.mem_cons_self ..)
            show fil (scan [] (44 :: (tx q ++ cms qs ++ 41 :: r))) = _
            rw [fil_brk (.inr (.inr rfl)), mk44, List.append_assoc, scan_thing n q (sk q hq) (hps q hq) _ ?_, ih fun z hz => h z (List.mem_cons_of_mem _ hz)]
            · simp [tokR]
            · cases qs with
              | nil => exact (beh41 _).at_
              | cons z zs => exact (beh44 _).at_
        rw [tx_node, join_cms, List.append_assoc, List.cons_append, fil_word (w8_okS c hc) (w8_pos c hc) (at40 _), fil_brk (.inl rfl), mk40]
        have e : tx p ++ cms ps ++ [41] ++ r = tx p ++ (cms ps ++ 41 :: r) := by simp
        rw [e, scan_thing n p (sk p (List.mem_cons_self ..)) (hps p (List.mem_cons_self ..)) _ ?_, rest ps fun q hq => List.mem_cons_of_mem _ hq]
        · simp [tok]
        · cases ps with
          | nil => exact (beh41 _).at_
          | cons z zs => exact (beh44 _).at_
theorem scan_txt {d : PyData} (h : drawn d = true) : fil (scan [] (tx d)) = tok d := by
  have := scan_thing _ d (Nat.le_refl _) h [] (fun c t e => by cases e)
  rw [List.append_nil, fil_end, List.append_nil] at this
  exact this
/-- things with a comma ahead of each -/
def intR : List PyData → List PyData
  | [] => []
  | q :: qs => .str sCm :: q :: intR qs
/-- how the parts are worked off: what lies there, what comes, what lies there at the end -/
inductive Tr (ks : List (Str × Int)) : List PyData → List Str → List PyData → Prop
  | nil (S : List PyData) : Tr ks S [] S
  | push (S : List PyData) (t : Str) (r : List Str) (S' : List PyData) : t ≠ sCl → PyData.strOk t = true → Tr ks (S ++ [.str t]) r S' → Tr ks S (t :: r) S'
  | close (S : List PyData) (c : Str) (p : PyData) (ps : List PyData) (r : List Str) (S' : List PyData) : OkT ks (.tuple (.str c :: p :: ps)) → PyData.depth (.tuple (.str c :: p :: ps)) ≤ 60 → Tr ks (S ++ [.tuple (.str c :: p :: ps)]) r S' → Tr ks (S ++ (.str c :: .str sOp :: p :: intR ps)) (sCl :: r) S'
theorem lv_sok : ∀ x ∈ LV, PyData.strOk x = true := by decide +kernel
theorem lv_cl : ∀ x ∈ LV, x ≠ sCl := by decide +kernel
theorem w8_cl : ∀ x ∈ W8, x ≠ sCl := by decide +kernel
theorem tr_thing {ks : List (Str × Int)} : ∀ (n : Nat) (d : PyData), sz d ≤ n → OkT ks d → PyData.depth d ≤ 60 → ∀ (S : List PyData) (r : List Str) (S' : List PyData), Tr ks (S ++ [d]) r S' → Tr ks S (tok d ++ r) S'
  | 0, d, s, _, _, _, _, _, _ => absurd s (by have := sz_pos d; omega)
  | n + 1, d, s, ok, dp, S, r, S', h => by
    rcases drawn_cases ok.dr with ⟨c, rfl, hc⟩ | ⟨c, ps, rfl, ne, hc, hps⟩
    · have e : tok (.str c) = [c] := by simp [tok]
      rw [e]
      exact .push _ _ _ _ (lv_cl c hc) (lv_sok c hc) h
    · cases ps with
      | nil => exact absurd rfl ne
      | cons p ps =>
        have sk : ∀ q ∈ p :: ps, sz q ≤ n := fun q hq => by
          have := kid_sz (d := .tuple (.str c :: p :: ps)) (p := q) hq
          omega
        have okp := ok.kid.2.2
        have dk : ∀ q ∈ p :: ps, PyData.depth q ≤ 60 := fun q hq => Nat.le_trans (kid_depth (d := .tuple (.str c :: p :: ps)) (n := 59) hq dp) (by omega)
        have rest : ∀ (qs : List PyData), (∀ q ∈ qs, q ∈ p :: ps) → ∀ (S1 : List PyData) (r1 : List Str), Tr ks (S1 ++ intR qs) r1 S' → Tr ks S1 (tokR qs ++ r1) S' := by
          intro qs
          induction qs with
          | nil => intro _ S1 r1 h1; simpa [intR, tokR] using h1
          | cons q qs ih =>
            intro hm S1 r1 h1
            have hq := hm q (List.mem_cons_self ..)
            have e : tokR (q :: qs) ++ r1 = sCm :: (tok q ++ (tokR qs ++ r1)) := by simp [tokR]
            rw [e]
            refine .push _ _ _ _ (by decide +kernel) (by decide +kernel) ?_
            refine tr_thing n q (sk q hq) (okp q hq) (dk q hq) _ _ _ ?_
            refine ih (fun z hz => hm z (List.mem_cons_of_mem _ hz)) _ _ ?_
            have e2 : S1 ++ [PyData.str sCm] ++ [q] ++ intR qs = S1 ++ intR (q :: qs) := by simp [intR]
            rw [e2]
            exact h1
        have e : tok (.tuple (.str c :: p :: ps)) ++ r = c :: sOp :: (tok p ++ (tokR ps ++ (sCl :: r))) := by simp [tok]
        rw [e]
        refine .push _ _ _ _ (w8_cl c hc) (w8_ok c hc) (.push _ _ _ _ (by decide +kernel) (by decide +kernel) ?_)
        refine tr_thing n p (sk p (List.mem_cons_self ..)) (okp p (List.mem_cons_self ..)) (dk p (List.mem_cons_self ..)) _ _ _ ?_
        refine rest ps (fun q hq => List.mem_cons_of_mem _ hq) _ _ ?_
        have e2 : S ++ [PyData.str c] ++ [.str sOp] ++ [p] ++ intR ps = S ++ (.str c :: .str sOp :: p :: intR ps) := by simp
        rw [e2]
        exact .close _ _ _ _ _ _ ok dp h
mutual
theorem drawn_lay : ∀ (n : Nat) (d : PyData), sz d ≤ n → drawn d = true → d.canLay0 = true
  | 0, d, s, _ => absurd s (by have := sz_pos d; omega)
  | n + 1, d, s, dr => by
    rcases drawn_cases dr with ⟨c, rfl, hc⟩ | ⟨c, ps, rfl, ne, hc, hps⟩
    · simp only [PyData.canLay0]
      exact lv_sok c hc
    · simp only [PyData.canLay0, PyData.canLayAll0, w8_ok c hc, Bool.true_and]
      exact drawn_lays n ps (fun p hp => by
        have := kid_sz (d := .tuple (.str c :: ps)) (p := p) hp
        omega) hps
theorem drawn_lays : ∀ (n : Nat) (ps : List PyData), (∀ p ∈ ps, sz p ≤ n) → (∀ p ∈ ps, drawn p = true) → PyData.canLayAll0 ps = true
  | _, [], _, _ => by simp [PyData.canLayAll0]
  | n, p :: ps, h, hd => by
    simp only [PyData.canLayAll0, drawn_lay n p (h p (List.mem_cons_self ..)) (hd p (List.mem_cons_self ..)), Bool.true_and]
    exact drawn_lays n ps (fun q hq => h q (List.mem_cons_of_mem _ hq)) fun q hq => hd q (List.mem_cons_of_mem _ hq)
end
/-- what may lie on the stack -/
structure Lay (z : PyData) : Prop where
  sh : SeqAt.shaped z = true
  th : thing z = true
theorem lay_str {t : Str} (h : PyData.strOk t = true) : Lay (.str t) := by
  refine ⟨?_, by simp [thing]⟩
  show (PyData.canLay0 _ && decide (PyData.depth _ ≤ 64)) = true
  simp [PyData.canLay0, PyData.depth, h]
theorem lay_drawn {d : PyData} (h : drawn d = true) (dp : PyData.depth d ≤ 60) : Lay d := by
  refine ⟨?_, drawn_th h⟩
  show (PyData.canLay0 _ && decide (PyData.depth _ ≤ 64)) = true
  rw [Bool.and_eq_true]
  exact ⟨drawn_lay _ d (Nat.le_refl _) h, decide_eq_true (by omega)⟩
theorem eqv_op {z : PyData} (h : thing z = true) (ne : z ≠ .str sOp) : PyData.eqv z (.str sOp) = false := by
  rcases thing_cases h with ⟨c, rfl⟩ | ⟨c, ps, rfl, _⟩
  · simp only [PyData.eqv, beq_eq_false_iff_ne]
    exact fun e => ne (by rw [e])
  · simp [PyData.eqv]
theorem eqv_op_me : PyData.eqv (.str sOp) (.str sOp) = true := by
  simp only [PyData.eqv, beq_self_eq_true]
end K12

set_option Elab.async false
set_option linter.all false
set_option maxRecDepth 100000
set_option maxHeartbeats 4000000
/-! _tokens(text). -/
namespace K12
open PySem PySem.Spec PyProof.Rows L2 Mine TL
abbrev sTok : Stmt := top 23
abbrev nTok : List Str := ["text", "tokens", "begin", "at", "sign", "token"]
def spTok (K : PySem.W.Frag) : Sp := fun vs H Q _ => ∃ d, vs = [.str (txt d)] ∧ drawn d = true ∧ sz d ≤ 4000 ∧ ∀ (q : Addr) (H' : Hp), Same H H' → H q = none → H' q = some (.lst ((tok d).map V.str)) → Q (.ref q) H'
structure TxtTk (mg : Str → Option Value) : Prop where
  enumerate : mg "enumerate" = none
/-- a name as a test -/
def tTruN (K : PySem.W.Frag) (i : Nat) : TT := fun σ H Q => tVar i σ H fun x H' => ∃ k, TruV K x H' k ∧ Q k H'
theorem in_brk (c : Nat) : decide (c ∈ (PySem.Str.ofString "(),").cps.toList) = brkB c := by
  have e : (PySem.Str.ofString "(),").cps.toList = [40, 41, 44] := by decide +kernel
  rw [e]
  simp [brkB]
theorem cut_mk {z : Str} {b i : Nat} (h : b ≤ i) (hi : i ≤ z.length) : cutS z (some (b : Int)) (some (i : Int)) = mkS (((tl z).take i).drop b) := by
  unfold cutS
  rw [HT.sIx_nat, HT.sIx_nat, Nat.min_eq_left hi, Nat.min_eq_left (Nat.le_trans h hi), List.drop_take]
theorem cut_end {z : Str} {b : Nat} (h : b ≤ z.length) : cutS z (some (b : Int)) none = mkS ((tl z).drop b) := by
  unfold cutS
  rw [HT.sIx_nat, HT.sIx_none, Nat.min_eq_left h]
  have e : ((tl z).drop b).length = z.length - b := by
    rw [List.length_drop]
    show z.cps.toList.length - b = _
    rw [Array.length_toList]
    rfl
  show (⟨(((tl z).drop b).take (z.length - b)).toArray⟩ : Str) = _
  rw [List.take_of_length_le (by omega)]
theorem scan_len : ∀ (r cur : List Nat), ∀ x ∈ scan cur r, x.length ≤ cur.length + r.length + 1
  | [], cur, x, h => by
    have e : x = mkS cur := by simpa [scan] using h
    subst e
    show (cur.toArray).size ≤ _
    rw [List.size_toArray]
    omega
  | c :: r, cur, x, h => by
    rw [List.length_cons]
    by_cases hb : brkB c = true
    · have e : scan cur (c :: r) = mkS cur :: mkS [c] :: scan [] r := by
        show (if brkB c = true then mkS cur :: mkS [c] :: scan [] r else _) = _
        rw [if_pos hb]
      rw [e] at h
      rcases List.mem_cons.mp h with h | h
      · subst h
        show (cur.toArray).size ≤ _
        rw [List.size_toArray]
        omega
      · rcases List.mem_cons.mp h with h | h
        · subst h
          show 1 ≤ _
          omega
        · have := scan_len r [] x h
          rw [List.length_nil] at this
          omega
    · have e : scan cur (c :: r) = scan (cur ++ [c]) r := by
        show (if brkB c = true then mkS cur :: mkS [c] :: scan [] r else _) = _
        rw [if_neg hb]
      rw [e] at h
      have := scan_len r (cur ++ [c]) x h
      rw [List.length_append, List.length_singleton] at this
      omega
theorem ne_neS (x : Str) : ((x.length : Int) != 0) = neS x := by
  unfold neS
  by_cases h : x.length = 0
  · simp [h]
  · have : (x.length : Int) ≠ 0 := by omega
    simp [h, this]
section
variable {P : Program} {w : World} {K : PySem.W.Frag} {mg : Str → Option Value} {base : Heap}
theorem scTok : FnScope nTok ["text"] (defScope sTok) := ⟨rfl, rfl, rfl, by decide +kernel, rfl, by decide +kernel, by decide +kernel⟩
theorem ok_tok {f : Addr} {fd : FuncData} (F : Fun K "_tokens" "_tokens" sTok f fd) (T : TxtTk mg) : FnOk P w K mg base CX0 1 f fd ["text"] (spTok K) := by
  refine F.ok scTok (fun vs H Q E h => ?_) (fun cdv A outer s H vs Q E hr h => ?_)
  · obtain ⟨_, rfl, _⟩ := h
    rfl
  · obtain ⟨d, rfl, dr, s4, k⟩ := h
    have line : sizeLine = 16777216 := sizeLine_eq
    refine ⟨_, pss_cons (ps_set (i := 1) scTok.nd rfl (.inl rfl) (pe_lst pa_nil))
      (pss_cons (ps_set (i := 2) scTok.nd rfl (.inl rfl) pe_int)
      (pss_cons (ps_for PassesOwn.never rfl (pi_enumT (by rfl) T.enumerate (pa_cons (pv 0) pa_nil)) (pg_tup rfl (pgs_cons (pg_name (i := 3) scTok.nd rfl (.inl rfl)) (pgs_cons (pg_name (i := 4) scTok.nd rfl (.inl rfl)) pgs_nil)))
        (pss_one (ps_if (pt_cmpR op_in_sign (pv 4) pe_str (by with_unfolding_all rfl))
          (pss_cons (ps_expr (pe_bm PySem.F.plainAttrs_list PySem.F.slot_list_extend PySem.F.type_list_extend mt_extend (pv 1) (pa_cons (pe_lst (pa_cons (pe_slice sl_str (pv 0) (po_some (pv 2)) (po_some (pv 3))) (pa_cons (pv 4) pa_nil))) pa_nil)))
          (pss_one (ps_set (i := 2) scTok.nd rfl (.inl rfl) (pe_op op_add (pv 3) pe_int)))) pss_nil)))
      (pss_cons (ps_expr (pe_bm PySem.F.plainAttrs_list PySem.F.slot_list_append PySem.F.type_list_append mt_append (pv 1) (pa_cons (pe_slice sl_str (pv 0) (po_some (pv 2)) po_none) pa_nil)))
      (pss_one (ps_ret (pe_lc (own := [("token", 5)]) (g := gName 5) rfl scTok.nd (pi_list (pv 1)) (blkOk_by (own := [("token", 5)]) (N := nTok) (sc := defScope sTok) (by decide +kernel))
        (fun _ _ _ _ _ => pg_name (i := 5) scTok.nd rfl (Or.inl rfl)) (fun _ _ _ _ _ => pts_one (show PT _ _ (tTruN K 5) from pt_truth (pv 5) (fun _ => rfl))) (fun _ _ _ _ _ => pv 5))))))), ?_⟩
    have tl0 : (txt d).length ≤ 50000 := by
      have := drawn_txt _ d (Nat.le_refl _) dr
      omega
    have sz0 : (txt d).cps.size = (txt d).length := rfl
    have tlen : (tx d).length = (txt d).length := by show (txt d).cps.toList.length = _; rw [Array.length_toList]; rfl
    refine ⟨Nat.zero_le _, fun q hq => ⟨_, rfl, _, rfl, ?_⟩⟩
    refine for_it (walk_enumT (x := txt d)) (fun i σ H' => ∃ (b : Nat) (dn : List Str) (o3 o4 : Option V), σ = [some (.str (txt d)), some (.ref q), some (.int (b : Nat)), o3, o4, none] ∧ H' q = some (.lst (dn.map V.str)) ∧ b ≤ i ∧ dn.length ≤ 2 * i ∧ dn ++ scan (((tx d).take i).drop b) ((tx d).drop i) = scan [] (tx d) ∧ (∀ b1 o1, b1 ≠ q → H b1 = some o1 → H' b1 = some o1))
      ⟨0, [], none, none, rfl, upd_same, Nat.le_refl _, by simp, by simp, fun b1 o1 h1 e1 => (upd_ne h1).trans e1⟩ (fun _ _ _ _ _ => trivial) ?_ ?_
    · rintro i v σ H1 H2 hi ⟨b, dn, o3, o4, rfl, eq, bi, dl, inv, off⟩ ⟨T', c, rfl, nT, rfl, hc⟩
      have hi' : i < (tx d).length := by rw [tlen, ← sz0]; exact hi
      have hc' : (tx d)[i]? = some c := by
        show (txt d).cps.toList[i]? = some c
        rw [Array.getElem?_toList]
        exact hc
      have eq2 := (upd_ne (o := .tup [.int (i : Nat), .str ⟨#[c]⟩]) (ne_of_none eq nT)).trans eq
      have off2 : ∀ b1 o1, b1 ≠ q → H b1 = some o1 → upd H1 T' (.tup [.int (i : Nat), .str ⟨#[c]⟩]) b1 = some o1 := fun b1 o1 h1 e1 => (upd_ne (ne_of_none (off b1 o1 h1 e1) nT)).trans (off b1 o1 h1 e1)
      refine ⟨T', _, rfl, SqT.of upd_same, rfl, _, _, rfl, _, _, rfl, rfl, ?_⟩
      have tk : (tx d).take (i + 1) = (tx d).take i ++ [c] := by rw [List.take_add_one, hc']; rfl
      have dr' : (tx d).drop i = c :: (tx d).drop (i + 1) := by
        rw [List.drop_eq_getElem_cons hi']
        rw [List.getElem?_eq_getElem hi'] at hc'
        rw [Option.some.inj hc']
      have tkl : ((tx d).take i).length = i := by rw [List.length_take]; omega
      refine ⟨_, rfl, c, _, rfl, rfl, _, rfl, ite2 (fun hb => ?_) (fun hb => ?_)⟩
      · rw [in_brk] at hb
        have br : brk c := of_decide_eq_true (p := c = 40 ∨ c = 41 ∨ c = 44) hb
        refine ⟨_, rfl, .inl ⟨rfl, _, SqL.of eq2⟩, _, rfl, _, rfl, _, rfl, _, rfl, _, rfl, txt d, rfl, by omega, _, rfl, (by show 2 ≤ sizeLine; omega), fun p hp => ?_⟩
        have eq3 := (upd_ne (o := .lst [.str (cutS (txt d) (some (b : Int)) (some (i : Int))), .str ⟨#[c]⟩]) (ne_of_none eq2 hp)).trans eq2
        refine ⟨q, p, _, _, rfl, rfl, eq3, upd_same, (by rw [List.length_map]; show dn.length + 2 ≤ sizeLine; omega), ?_⟩
        refine ⟨_, rfl, _, _, rfl, rfl, i + 1, dn ++ [mkS (((tx d).take i).drop b), mkS [c]], _, _, rfl, ?_, Nat.le_refl _, by rw [List.length_append]; show dn.length + 2 ≤ _; omega, ?_, fun b1 o1 h1 e1 => (upd_ne h1).trans ((upd_ne (ne_of_none (off2 b1 o1 h1 e1) hp)).trans (off2 b1 o1 h1 e1))⟩
        · rw [upd_same, cut_mk bi (by omega), List.map_append]
          rfl
        · have e0 : ((tx d).take (i + 1)).drop (i + 1) = [] := List.drop_eq_nil_of_le (by rw [List.length_take]; omega)
          rw [e0]
          rw [dr', scan_brk br] at inv
          rw [← inv]
          simp
      · rw [in_brk] at hb
        have br : ¬ brk c := fun z => hb (decide_eq_true (p := c = 40 ∨ c = 41 ∨ c = 44) z)
        refine ⟨b, dn, _, _, rfl, eq2, by omega, by omega, ?_, off2⟩
        rw [dr'] at inv
        have e : scan (((tx d).take i).drop b) (c :: (tx d).drop (i + 1)) = scan (((tx d).take i).drop b ++ [c]) ((tx d).drop (i + 1)) := scan_free (a := [c]) fun z hz => by rw [List.mem_singleton.mp hz]; exact br
        rw [e] at inv
        rw [tk, List.drop_append_of_le_length (by omega)]
        exact inv
    · rintro σ H1 ⟨b, dn, o3, o4, rfl, eq, bi, dl, inv, off⟩
      have bi' : b ≤ (txt d).length := by rw [← sz0]; exact bi
      rw [sz0] at dl inv
      rw [← tlen, List.take_of_length_le (Nat.le_refl _), List.drop_eq_nil_of_le (Nat.le_refl _)] at inv
      refine ⟨_, rfl, .inl ⟨rfl, _, SqL.of eq⟩, _, rfl, _, rfl, _, rfl, txt d, rfl, by omega, q, _, _, rfl, rfl, eq, by rw [List.length_map]; omega, ?_⟩
      have e2 : dn.map V.str ++ [V.str (cutS (txt d) (some (b : Int)) none)] = (scan [] (tx d)).map V.str := by
        rw [cut_end bi', ← inv, List.map_append]
        rfl
      rw [e2]
      have sl : (scan [] (tx d)).length ≤ 100010 := by
        rw [← inv, List.length_append]
        show dn.length + 1 ≤ _
        omega
      have off3 : ∀ b1 o1, b1 ≠ q → H b1 = some o1 → upd H1 q (.lst ((scan [] (tx d)).map V.str)) b1 = some o1 := fun b1 o1 h1 e1 => (upd_ne h1).trans (off b1 o1 h1 e1)
      have eq2 : upd H1 q (.lst ((scan [] (tx d)).map V.str)) q = some (.lst ((scan [] (tx d)).map V.str)) := upd_same
      show Ends.nx _ _ (upd H1 q (.lst ((scan [] (tx d)).map V.str)))
      generalize upd H1 q (.lst ((scan [] (tx d)).map V.str)) = H2 at off3 eq2
      have s2 : Same H H2 := fun b1 o1 e1 => off3 b1 o1 (ne_of_none e1 hq) e1
      refine ⟨_, rfl, q, rfl, ⟨_, SqL.of eq2⟩, fun D hD => ?_⟩
      refine lc_list (K := K) (a := q) (xs := (scan [] (tx d)).map V.str) (fun i H' => H' D = some (.lst ((fil ((scan [] (tx d)).take i)).map V.str)) ∧ Same H2 H') ⟨by simpa using upd_same, same_new same_rfl hD⟩ (fun i H' _ z => SqL.of (z.2 _ _ eq2)) ?_ ?_
      · rintro i y H' hi ⟨eD, sm⟩
        rw [List.getElem?_map] at hi
        obtain ⟨c, hc, rfl⟩ := Option.map_eq_some_iff.mp hi
        have il : i < (scan [] (tx d)).length := (List.getElem?_eq_some_iff.mp hc).1
        have cl := scan_len _ _ c (List.mem_of_getElem? hc)
        rw [List.length_nil] at cl
        have tk : (scan [] (tx d)).take (i + 1) = (scan [] (tx d)).take i ++ [c] := by rw [List.take_add_one, hc]; rfl
        have room : ((fil ((scan [] (tx d)).take i)).map V.str).length < sizeLine := by
          have := List.length_filter_le neS ((scan [] (tx d)).take i)
          rw [List.length_take] at this
          rw [List.length_map]
          show (((scan [] (tx d)).take i).filter neS).length < _
          omega
        refine ⟨rfl, _, rfl, _, ⟨by omega, rfl⟩, ite2 (fun hb => ?_) (fun hb => ?_)⟩
        · rw [ne_neS] at hb
          refine ⟨_, rfl, _, eD, room, ?_, fun b1 o1 e1 => (upd_ne (ne_of_none e1 hD)).trans (sm _ _ e1)⟩
          rw [upd_same, tk]
          simp [fil, List.filter_append, hb]
        · rw [ne_neS] at hb
          refine ⟨?_, sm⟩
          rw [eD, tk]
          simp [fil, List.filter_append, hb]
      · rintro H' ⟨eD, sm⟩
        rw [List.length_map, List.take_of_length_le (Nat.le_refl _), scan_txt dr] at eD
        exact k D H' (same_tr s2 sm) (none_same s2 hD) eD
end
end K12

set_option Elab.async false
set_option linter.all false
set_option maxRecDepth 100000
set_option maxHeartbeats 4000000
/-! _last_bracket(stack). -/
namespace K12
open PySem PySem.Spec PyProof.Rows L2 Mine TL
abbrev sLB : Stmt := top 24
def spLB (K : PySem.W.Frag) : Sp := fun vs H Q _ => ∃ (a : Addr) (us : List V) (S tl : List PyData), vs = [.ref a] ∧ H a = some (.lst us) ∧ DpAll K H us (S ++ .str sOp :: tl) ∧ (∀ z ∈ S ++ .str sOp :: tl, Lay z) ∧ (∀ z ∈ tl, z ≠ .str sOp) ∧ us.length ≤ 10000 ∧ Q (.int (S.length : Nat)) H
structure TxtLB (mg : Str → Option Value) : Prop where
  len : mg "len" = none
  range : mg "range" = none
  reversed : mg "reversed" = none
section
variable {P : Program} {w : World} {K : PySem.W.Frag} {mg : Str → Option Value} {base : Heap}
theorem scLB : FnScope ["stack", "at"] ["stack"] (defScope sLB) := ⟨rfl, rfl, rfl, by decide +kernel, rfl, by decide +kernel, by decide +kernel⟩
theorem ok_lb {f : Addr} {fd : FuncData} (F : Fun K "_last_bracket" "_last_bracket" sLB f fd) (T : TxtLB mg) : FnOk P w K mg base CX0 1 f fd ["stack"] (spLB K) := by
  refine F.ok scLB (fun vs H Q E h => ?_) (fun cdv A outer s H vs Q E hr h => ?_)
  · obtain ⟨_, _, _, _, rfl, _⟩ := h
    rfl
  · obtain ⟨a, us, S, tl, rfl, ha, hd, lay, no, ul, k⟩ := h
    have line : sizeLine = 16777216 := sizeLine_eq
    refine ⟨_, pss_cons (ps_for PassesOwn.never rfl (pi_revR (by rfl) T.reversed (prg_1 (by rfl) T.range (pe_callB call_len_seq (by rfl) T.len PySem.boot_len (pa_cons (pv 0) pa_nil)))) (pg_name (i := 1) scLB.nd rfl (.inl rfl))
        (pss_one (ps_if (pt_cmpR (op_eqD hr.units) (pe_ix ix_list (pv 0) (pv 1) (fun _ _ => rfl)) pe_str (nomark _)) (pss_one (ps_ret (pv 1))) pss_nil)))
      (pss_one (ps_ret (pe_un un_neg pe_int))), ?_⟩
    have l1 := dps_len hd
    rw [List.length_append, List.length_cons] at l1
    refine ⟨_, rfl, a, _, rfl, .inl (SqL.of ha), _, rfl, by decide, by decide, by omega, by omega, ?_⟩
    refine for_rangeC (n := ((us.length : Int) - 0).toNat) (fun i σ H' => ∃ o1 : Option V, σ = [some (.ref a), o1] ∧ i ≤ tl.length ∧ H' = H) ⟨none, rfl, Nat.zero_le _, rfl⟩ ?_ ?_
    · rintro i σ H' hi ⟨o1, rfl, it, rfl⟩
      have hi' : i < us.length := by omega
      obtain ⟨m, hm⟩ : ∃ m, us.length - i = m + 1 := ⟨us.length - i - 1, by omega⟩
      have item : (0 : Int) + ((((us.length : Int) - 0).toNat : Nat) : Int) - 1 + ((i : Nat) : Int) * (-1) = ((m : Nat) : Int) := by omega
      have ml : m < (S ++ .str sOp :: tl).length := by rw [List.length_append, List.length_cons]; omega
      have hx : (S ++ PyData.str sOp :: tl)[m]? = some (S ++ .str sOp :: tl)[m] := List.getElem?_eq_getElem ml
      obtain ⟨y, hy, dy⟩ := dps_at hd hx
      generalize hz : (S ++ PyData.str sOp :: tl)[m] = z at hx dy
      have lz := lay z (List.mem_of_getElem? hx)
      refine ⟨_, rfl, _, rfl, a, _, _, _, rfl, rfl, SqL.of ha, (by rw [item]; exact atI_nat hy), z, .str sOp, dy, .str _, lz.sh, (lay_str (by decide +kernel)).sh, _, rfl, ite2 (fun hb => ?_) (fun hb => ?_)⟩
      · have ez : z = .str sOp := by
          by_cases q : z = .str sOp
          · exact q
          · rw [eqv_op lz.th q] at hb
            cases hb
        have em : m = S.length := by
          by_cases q : m < S.length
          · omega
          · by_cases q2 : m = S.length
            · exact q2
            · have e : tl[m - S.length - 1]? = some z := by
                rw [← hx, List.getElem?_append_right (by omega)]
                obtain ⟨j, hj⟩ : ∃ j, m - S.length = j + 1 := ⟨m - S.length - 1, by omega⟩
                rw [hj]
                rfl
              exact absurd ez (no z (List.mem_of_getElem? e))
        refine ⟨_, rfl, ?_⟩
        rw [item, em]
        exact k
      · refine ⟨_, rfl, ?_, rfl⟩
        have ne : z ≠ .str sOp := fun q => hb (by rw [q]; exact eqv_op_me)
        by_cases q : i = tl.length
        · exfalso
          apply ne
          have em : m = S.length := by omega
          rw [em, List.getElem?_append_right (Nat.le_refl _), Nat.sub_self] at hx
          exact (Option.some.inj hx).symm
        · omega
    · rintro σ H' ⟨o1, rfl, it, rfl⟩
      omega
end
end K12

set_option Elab.async false
set_option linter.all false
set_option maxRecDepth 100000
set_option maxHeartbeats 4000000
/-! _is_part(token). -/
namespace K12
open PySem PySem.Spec PyProof.Rows L2 Mine TL
abbrev sIP : Stmt := top 26
def spIP (K : PySem.W.Frag) : Sp := fun vs H Q _ => ∃ (v : V) (d : PyData), vs = [v] ∧ Dp K H v d ∧ drawn d = true ∧ ∀ H', Same H H' → Q (.bl true) H'
structure TxtIP (K : PySem.W.Frag) (mg : Str → Option Value) (fW fN : Addr) : Prop where
  isi : mg "isinstance" = none
  tuple : mg "tuple" = none
  gW : mg "is_word" = some (.ref fW)
  kW : PySem.W.keepIn K (.ref fW) = true
  gN : mg "is_name" = some (.ref fN)
  kN : PySem.W.keepIn K (.ref fN) = true
section
variable {P : Program} {w : World} {K : PySem.W.Frag} {mg : Str → Option Value} {base : Heap}
theorem scIP : FnScope ["token"] ["token"] (defScope sIP) := ⟨rfl, rfl, rfl, by decide +kernel, rfl, by decide +kernel, by decide +kernel⟩
theorem ok_ip {f fW fN : Addr} {fd dW dN : FuncData} (F : Fun K "_is_part" "_is_part" sIP f fd) (T : TxtIP K mg fW fN) (GW : FnOk P w K mg base CX0 1 fW dW ["thing"] (spIs K isW)) (bW : Binds K dW ["thing"] []) (GN : FnOk P w K mg base CX0 1 fN dN ["thing"] (spIs K isN)) (bN : Binds K dN ["thing"] []) :
    FnOk P w K mg base CX0 2 f fd ["token"] (spIP K) := by
  refine F.ok scIP (fun vs H Q E h => ?_) (fun cdv A outer s H vs Q E hr h => ?_)
  · obtain ⟨_, _, rfl, _⟩ := h
    rfl
  · obtain ⟨v, d, rfl, hd, dr, k⟩ := h
    have line : sizeLine = 16777216 := sizeLine_eq
    refine ⟨_, pss_one (ps_ret (pe_or (pe_callB call_isi (by rfl) T.isi (by decide +kernel) (pa_cons (pv 0) (pa_cons (pe_bltn (v := .ty "tuple") rfl T.tuple (by decide +kernel) rfl) pa_nil)))
      (pe_or (pe_call GW hr rfl T.gW T.kW bW .nil pass0 (pa_cons (pv 0) pa_nil)) (pe_one (pe_call GN hr rfl T.gN T.kN bN .nil pass0 (pa_cons (pv 0) pa_nil)))))), ?_⟩
    rcases drawn_cases dr with ⟨c, rfl, hc⟩ | ⟨c, ps, rfl, ne, hc, hps⟩
    · cases hd
      have cl := lv_len c hc
      refine ⟨_, rfl, _, _, _, _, false, rfl, .ty "tuple", .base (.str c), kit_ty rfl, _, rfl, ite2 (fun z => absurd z (by decide)) (fun _ => ?_)⟩
      refine ⟨_, rfl, _, rfl, .inl ⟨c, rfl, by omega, fun H1 s1 => ⟨_, rfl, ite2 (fun z => ?_) (fun z => ?_)⟩⟩⟩
      · first
          | exact k _ s1
          | (have z' : isW c = true := z
             have := k _ s1
             rw [z']
             exact this)
      · refine ⟨_, rfl, _, rfl, .inl ⟨c, rfl, by omega, fun H2 s2 => ?_⟩⟩
        have z' : ¬ isW c = true := z
        have n : isN c = true := by
          have := lv_isWN c hc
          rw [Bool.or_eq_true] at this
          exact this.resolve_left z'
        rw [n]
        exact k _ (same_tr s1 s2)
    · cases hd with
      | tup ha hds =>
        refine ⟨_, rfl, _, _, _, _, true, rfl, .ty "tuple", sqT_ty' ha, kit_ty rfl, _, rfl, ite2 (fun _ => ?_) (fun z => absurd rfl z)⟩
        exact k _ same_rfl
end
end K12

set_option Elab.async false
set_option linter.all false
set_option maxRecDepth 100000
set_option maxHeartbeats 4000000
/-! _closed_thing(counts, tokens). -/
namespace K12
open PySem PySem.Spec PyProof.Rows L2 Mine TL StX
abbrev sCT : Stmt := top 25
abbrev nCT : List Str := ["counts", "tokens", "kind", "inside", "parts", "part"]
def spCT (K : PySem.W.Frag) : Sp := fun vs H Q _ => ∃ (cd a : Addr) (us : List V) (c : Str) (p : PyData) (ps : List PyData) (ks : List (Str × Int)), vs = [.ref cd, .ref a] ∧ Cnt H cd ks ∧ (∀ p ∈ ks, p.2 ≤ 3) ∧ H a = some (.lst us) ∧ DpAll K H us (.str c :: .str sOp :: p :: (intR ps ++ [.str sCl])) ∧ OkT ks (.tuple (.str c :: p :: ps)) ∧ PyData.depth (.tuple (.str c :: p :: ps)) ≤ 60 ∧
  ∀ (q : Addr) (zs : List V) (H' : Hp), Same H H' → H q = none → H' q = some (.tup zs) → DpAll K H' zs (.str c :: p :: ps) → Q (.ref q) H'
structure TxtCT (K : PySem.W.Frag) (mg : Str → Option Value) (fI : Addr) : Prop where
  isi : mg "isinstance" = none
  str : mg "str" = none
  len : mg "len" = none
  all : mg "all" = none
  gI : mg "_is_part" = some (.ref fI)
  kI : PySem.W.keepIn K (.ref fI) = true
theorem dpc {K : PySem.W.Frag} {H : Hp} {us : List V} {d : PyData} {ds : List PyData} (h : DpAll K H us (d :: ds)) : ∃ v vs, us = v :: vs ∧ Dp K H v d ∧ DpAll K H vs ds := by
  cases h with
  | cons a b => exact ⟨_, _, rfl, a, b⟩
theorem dpn {K : PySem.W.Frag} {H : Hp} {us : List V} (h : DpAll K H us []) : us = [] := by
  cases h
  rfl
theorem dps1 {K : PySem.W.Frag} {H : Hp} {v : V} {x : Str} (h : Dp K H v (.str x)) : v = .str x := by
  cases h
  rfl
abbrev cmD (n : Nat) : PyData := .list (List.replicate n (.str sCm))
theorem cm_sh : ∀ n ≤ 2, SeqAt.shaped (cmD n) = true := by decide +kernel
theorem cm_eq : ∀ n ≤ 2, PyData.eqv (cmD n) (cmD n) = true := by decide +kernel
theorem cm_dp {K : PySem.W.Frag} {H : Hp} : ∀ n : Nat, DpAll K H (List.replicate n (V.str sCm)) (List.replicate n (.str sCm))
  | 0 => .nil
  | n + 1 => .cons (.str _) (cm_dp n)
theorem flat_one (n : Nat) : (List.replicate n [V.str sCm]).flatten = List.replicate n (V.str sCm) := by
  induction n with
  | zero => rfl
  | succ n ih =>
    rw [List.replicate_succ, List.replicate_succ, List.flatten_cons, ih]
    rfl
theorem at2_of {lo : Option Int} {xs : List V} (n : Nat) (js : List Nat) (h : xs.length = n) (e : sliceRange (sliceBounds lo none (some 2) n).1 (sliceBounds lo none (some 2) n).2.1 (sliceBounds lo none (some 2) n).2.2 = js) : at2 lo xs = js.filterMap (xs[·]?) := by
  subst h
  unfold at2
  rw [e]
theorem split_us {K : PySem.W.Frag} {H : Hp} {c : Str} {p : PyData} : ∀ {us : List V} (ps : List PyData), ps.length ≤ 2 → DpAll K H us (.str c :: .str sOp :: p :: (intR ps ++ [.str sCl])) →
    ∃ ins prt : List V, us = .str c :: .str sOp :: (ins ++ [.str sCl]) ∧ cutV us (some 2) (some (-1)) = ins ∧ at2 none ins = prt ∧ at2 (some 1) ins = List.replicate ps.length (.str sCm) ∧ DpAll K H prt (p :: ps) ∧ ins.length ≤ 5
  | _, [], _, h => by
    simp only [intR, List.cons_append, List.nil_append] at h
    obtain ⟨_, _, rfl, h1, g1⟩ := dpc h
    obtain rfl := dps1 h1
    obtain ⟨_, _, rfl, h2, g2⟩ := dpc g1
    obtain rfl := dps1 h2
    obtain ⟨v1, _, rfl, h3, g3⟩ := dpc g2
    obtain ⟨_, _, rfl, h9, g4⟩ := dpc g3
    obtain rfl := dps1 h9
    obtain rfl := dpn g4
    exact ⟨[v1], [v1], rfl, rfl, (at2_of 1 [0] rfl (by decide)), (at2_of 1 [] rfl (by decide)), .cons h3 .nil, by simp⟩
  | _, [q], _, h => by
    simp only [intR, List.cons_append, List.nil_append] at h
    obtain ⟨_, _, rfl, h1, g1⟩ := dpc h
    obtain rfl := dps1 h1
    obtain ⟨_, _, rfl, h2, g2⟩ := dpc g1
    obtain rfl := dps1 h2
    obtain ⟨v1, _, rfl, h3, g3⟩ := dpc g2
    obtain ⟨_, _, rfl, c0, g4⟩ := dpc g3
    obtain rfl := dps1 c0
    obtain ⟨v2, _, rfl, d0, g5⟩ := dpc g4
    obtain ⟨_, _, rfl, h9, g6⟩ := dpc g5
    obtain rfl := dps1 h9
    obtain rfl := dpn g6
    exact ⟨[v1, .str sCm, v2], [v1, v2], rfl, rfl, (at2_of 3 [0, 2] rfl (by decide)), (at2_of 3 [1] rfl (by decide)), .cons h3 (.cons d0 .nil), by simp⟩
  | _, [q, r], _, h => by
    simp only [intR, List.cons_append, List.nil_append] at h
    obtain ⟨_, _, rfl, h1, g1⟩ := dpc h
    obtain rfl := dps1 h1
    obtain ⟨_, _, rfl, h2, g2⟩ := dpc g1
    obtain rfl := dps1 h2
    obtain ⟨v1, _, rfl, h3, g3⟩ := dpc g2
    obtain ⟨_, _, rfl, c0, g4⟩ := dpc g3
    obtain rfl := dps1 c0
    obtain ⟨v2, _, rfl, d0, g5⟩ := dpc g4
    obtain ⟨_, _, rfl, c1, g6⟩ := dpc g5
    obtain rfl := dps1 c1
    obtain ⟨v3, _, rfl, d1, g7⟩ := dpc g6
    obtain ⟨_, _, rfl, h9, g8⟩ := dpc g7
    obtain rfl := dps1 h9
    obtain rfl := dpn g8
    exact ⟨[v1, .str sCm, v2, .str sCm, v3], [v1, v2, v3], rfl, rfl, (at2_of 5 [0, 2, 4] rfl (by decide)), (at2_of 5 [1, 3] rfl (by decide)), .cons h3 (.cons d0 (.cons d1 .nil)), by simp⟩
  | _, _ :: _ :: _ :: _, l, _ => by simp at l
section
variable {P : Program} {w : World} {K : PySem.W.Frag} {mg : Str → Option Value} {base : Heap}
theorem scCT : FnScope nCT ["counts", "tokens"] (defScope sCT) := ⟨rfl, rfl, rfl, by decide +kernel, rfl, by decide +kernel, by decide +kernel⟩
theorem ok_ct {f fI : Addr} {fd dI : FuncData} (F : Fun K "_closed_thing" "_closed_thing" sCT f fd) (T : TxtCT K mg fI) (GI : FnOk P w K mg base CX0 2 fI dI ["token"] (spIP K)) (bI : Binds K dI ["token"] []) :
    FnOk P w K mg base CX0 3 f fd ["counts", "tokens"] (spCT K) := by
  refine F.ok scCT (fun vs H Q E h => ?_) (fun cdv A outer s H vs Q E hr h => ?_)
  · obtain ⟨_, _, _, _, _, _, _, rfl, _⟩ := h
    rfl
  · obtain ⟨cd, a, us, c, p, ps, ks, rfl, hc, num, ha, hd, ok, dp, k⟩ := h
    have hu := hu_of hr
    have line : sizeLine = 16777216 := sizeLine_eq
    refine ⟨_, pss_cons (ps_set (i := 2) scCT.nd rfl (.inl rfl) (pe_ix ix_list (pv 1) pe_int (fun _ _ => rfl)))
      (pss_cons (ps_set (i := 3) scCT.nd rfl (.inl rfl) (pe_slice sl_list (pv 1) (po_some pe_int) (po_some (pe_un un_neg pe_int))))
      (pss_cons (ps_set (i := 4) scCT.nd rfl (.inl rfl) (pe_sl2 (pv 3) po_none))
      (pss_cons (ps_if (PW.pt (pw_or (pt_not (pt_val (pe_callB call_isi (by rfl) T.isi (by decide +kernel) (pa_cons (pv 2) (pa_cons (pe_bltn (v := .ty "str") rfl T.str (by decide +kernel) rfl) pa_nil)))))
          (pw_or (pt_cmp (pc_dnotin hu (pv 2) (pv 0))) (pw_or1 (pt_cmpR op_ne (pe_dget hu (pv 0) (pv 2) (fun _ _ => rfl)) (pe_callB call_len_seq (by rfl) T.len PySem.boot_len (pa_cons (pv 4) pa_nil)) (nomark _)))))) (pss_one (ps_ret pe_non)) pss_nil)
      (pss_cons (ps_if (PW.pt (pw_or (pt_cmpR (op_neD hr.units) (pe_sl2 (pv 3) (po_some pe_int)) (pe_op op_rep (pe_lst (pa_cons pe_str pa_nil)) (pe_op op_sub (pe_callB call_len_seq (by rfl) T.len PySem.boot_len (pa_cons (pv 4) pa_nil)) pe_int)) (nomark _))
          (pw_or1 (pt_not (pt_val (pe_callB (cr_all rfl) (by rfl) T.all (by decide +kernel) (pa_cons (pe_lc (own := [("part", 5)]) (g := gName 5) (tt := tYes) rfl scCT.nd (pi_list (pv 4)) (blkOk_by (own := [("part", 5)]) (N := nCT) (sc := defScope sCT) (by decide +kernel))
            (fun _ _ _ _ _ => pg_name (i := 5) scCT.nd rfl (Or.inl rfl)) (fun _ _ _ _ _ => pts_nil) (fun _ _ _ _ _ => pe_call GI hr rfl T.gI T.kI bI .nil pass0 (pa_cons (pv 5) pa_nil))) pa_nil))))))) (pss_one (ps_ret pe_non)) pss_nil)
      (pss_one (ps_ret (pe_tup (pa_cons (pv 2) (pa_star (pv 4) pa_nil))))))))), ?_⟩
    have kd := ok.kid
    have ml : ps.length ≤ 2 := by
      have := num _ kd.1
      simp only [List.length_cons] at this
      omega
    obtain ⟨ins, prt, e1, e2, e3, e4, hp, il⟩ := split_us ps ml hd
    have pl := dps_len hp
    have thp : thingAll (p :: ps) = true := thingAll_iff.mpr fun z hz => drawn_th (kd.2.2 z hz).dr
    subst e1
    refine ⟨_, rfl, a, _, _, _, rfl, rfl, SqL.of ha, at0, ?_⟩
    refine ⟨_, rfl, _, rfl, _, rfl, _, rfl, a, _, rfl, SqL.of ha, fun b hb => ?_⟩
    rw [e2]
    have s1 : Same H (upd H b (.lst ins)) := same_new same_rfl hb
    have eb : upd H b (.lst ins) b = some (.lst ins) := upd_same
    show Ends.nx _ _ (upd H b (.lst ins))
    generalize upd H b (.lst ins) = H1 at s1 eb
    refine ⟨_, rfl, b, _, rfl, SqL.of eb, fun g hg => ?_⟩
    rw [e3]
    have s2 : Same H1 (upd H1 g (.lst prt)) := same_new same_rfl hg
    have eg : upd H1 g (.lst prt) g = some (.lst prt) := upd_same
    show Ends.nx _ _ (upd H1 g (.lst prt))
    generalize upd H1 g (.lst prt) = H2 at s2 eg
    have s02 := same_tr s1 s2
    obtain ⟨kvs, ec, yes, no⟩ := hc.same s02
    have yc := yes _ kd.1
    simp only [List.length_cons] at yc
    refine ⟨_, rfl, _, _, _, _, true, rfl, .ty "str", .base (.str c), kit_ty rfl, _, rfl, ite2 (fun z => absurd z (by decide)) (fun _ => ?_)⟩
    refine ⟨_, rfl, _, rfl, cd, some (.int ((ps.length + 1 : Nat) : Int)), rfl, .inl ⟨kvs, .inr c, .inl ec, rfl, yc.symm⟩, _, rfl, ite2 (fun z => absurd z (by simp)) (fun _ => ?_)⟩
    refine ⟨_, rfl, _, rfl, cd, _, rfl, .inl ⟨kvs, .inr c, .inl ec, rfl, yc.symm⟩, _, rfl, g, _, rfl, .inl (SqL.of eg), rfl, _, rfl, ite2 (fun z => absurd z (by rw [pl]; simp)) (fun _ => ?_)⟩
    have eb2 := s2 _ _ eb
    refine ⟨_, rfl, _, rfl, b, _, rfl, SqL.of eb2, fun m hm => ?_⟩
    rw [e4]
    have s3 : Same H2 (upd H2 m (.lst (List.replicate ps.length (V.str sCm)))) := same_new same_rfl hm
    have em : upd H2 m (.lst (List.replicate ps.length (V.str sCm))) m = some (.lst (List.replicate ps.length (V.str sCm))) := upd_same
    generalize upd H2 m (.lst (List.replicate ps.length (V.str sCm))) = H3 at s3 em
    refine ⟨(by show 1 ≤ sizeLine; omega), fun l1 hl1 => ?_⟩
    have s4 : Same H3 (upd H3 l1 (.lst [.str sCm])) := same_new same_rfl hl1
    have el : upd H3 l1 (.lst [.str sCm]) l1 = some (.lst [.str sCm]) := upd_same
    generalize upd H3 l1 (.lst [.str sCm]) = H4 at s4 el
    refine ⟨_, rfl, g, _, rfl, .inl (SqL.of (s4 _ _ (s3 _ _ eg))), _, _, rfl, rfl, l1, _, _, rfl, rfl, el, by rw [pl]; simp only [List.length_cons]; omega, by rw [pl]; simp only [List.length_cons]; omega, by rw [pl]; simp only [List.length_cons]; show 1 * _ ≤ sizeLine; omega, fun r hr2 => ?_⟩
    have kn : ((prt.length : Int) - 1).toNat = ps.length := by rw [pl]; simp only [List.length_cons]; omega
    rw [kn, flat_one]
    have s5 : Same H4 (upd H4 r (.lst (List.replicate ps.length (V.str sCm)))) := same_new same_rfl hr2
    have er : upd H4 r (.lst (List.replicate ps.length (V.str sCm))) r = some (.lst (List.replicate ps.length (V.str sCm))) := upd_same
    generalize upd H4 r (.lst (List.replicate ps.length (V.str sCm))) = H5 at s5 er
    have s25 : Same H2 H5 := same_tr s3 (same_tr s4 s5)
    refine ⟨cmD ps.length, cmD ps.length, .lst (SqL.of (s5 _ _ (s4 _ _ em))) (cm_dp _), .lst (SqL.of er) (cm_dp _), cm_sh _ ml, cm_sh _ ml, _, rfl, ite2 (fun z => absurd z (by rw [cm_eq _ ml]; decide)) (fun _ => ?_)⟩
    have s05 := same_tr s02 s25
    refine ⟨_, rfl, g, rfl, ⟨_, SqL.of (s25 _ _ eg)⟩, fun D hD => ?_⟩
    refine lc_list (K := K) (a := g) (xs := prt) (fun i H' => H' D = some (.lst ((List.replicate i true).map V.bl)) ∧ Same H5 H') ⟨upd_same, same_new same_rfl hD⟩ (fun i H' _ z => SqL.of (z.2 _ _ (s25 _ _ eg))) ?_ ?_
    · rintro i y H' hi ⟨eD, sm⟩
      have il2 : i < prt.length := (List.getElem?_eq_some_iff.mp hi).1
      have hx : (p :: ps)[i]? = some (p :: ps)[i] := List.getElem?_eq_getElem (by omega)
      obtain ⟨y', hy', dy⟩ := dps_at hp hx
      rw [hi] at hy'
      cases hy'
      generalize (p :: ps)[i] = z at hx dy
      refine ⟨rfl, ?_⟩
      refine yes_if ?_
      refine ⟨_, rfl, y, z, rfl, dp_same (same_tr s05 sm) z y dy, (kd.2.2 z (List.mem_of_getElem? hx)).dr, fun H6 s6 => ?_⟩
      refine ⟨_, s6 _ _ eD, by rw [List.length_map, List.length_replicate]; rw [pl] at il2; simp only [List.length_cons] at il2; omega, ?_, fun b1 o1 e1 => (upd_ne (ne_of_none e1 hD)).trans (s6 _ _ (sm _ _ e1))⟩
      rw [upd_same, List.replicate_succ', List.map_append]
      rfl
    · rintro H6 ⟨eD, sm⟩
      refine ⟨D, _, rfl, SqL.of eD, ?_⟩
      have al : (List.replicate prt.length true).all id = true := by simp
      rw [al]
      refine ⟨_, rfl, ite2 (fun z => absurd z (by decide)) (fun _ => ?_)⟩
      have s06 := same_tr s05 sm
      refine ⟨_, rfl, _, rfl, g, prt, rfl, .inr (SqL.of (sm _ _ (s25 _ _ eg))), ?_⟩
      refine ⟨by rw [List.append_nil, List.length_cons, pl]; simp only [List.length_cons]; omega, fun q hq => ?_⟩
      rw [List.append_nil]
      exact k q _ _ (same_new s06 hq) (none_same s06 hq) upd_same (.cons (.str c) (dps_same (same_new s06 hq) _ _ hp))
end
end K12

set_option Elab.async false
set_option linter.all false
set_option maxRecDepth 100000
set_option maxHeartbeats 4000000
/-! thing_with_text(counts, text). -/
namespace K12
open PySem PySem.Spec PyProof.Rows L2 Mine TL StX
abbrev sTT : Stmt := top 22
abbrev nTT : List Str := ["counts", "text", "stack", "token", "begin", "thing"]
def spTT (K : PySem.W.Frag) : Sp := fun vs H Q _ => ∃ (cd : Addr) (d : PyData) (ks : List (Str × Int)), vs = [.ref cd, .str (txt d)] ∧ Cnt H cd ks ∧ (∀ p ∈ ks, p.2 ≤ 3) ∧ OkT ks d ∧ sz d ≤ 1000 ∧ PyData.depth d ≤ 60 ∧
  ∀ (v : V) (H' : Hp), Same H H' → Dp K H' v d → Q v H'
structure TxtTT (K : PySem.W.Frag) (mg : Str → Option Value) (fT fL fC fI : Addr) : Prop where
  len : mg "len" = none
  gT : mg "_tokens" = some (.ref fT)
  kT : PySem.W.keepIn K (.ref fT) = true
  gL : mg "_last_bracket" = some (.ref fL)
  kL : PySem.W.keepIn K (.ref fL) = true
  gC : mg "_closed_thing" = some (.ref fC)
  kC : PySem.W.keepIn K (.ref fC) = true
  gI : mg "_is_part" = some (.ref fI)
  kI : PySem.W.keepIn K (.ref fI) = true
theorem Tr.inv {ks : List (Str × Int)} {S S' : List PyData} {t : Str} {r : List Str} (h : Tr ks S (t :: r) S') : (t ≠ sCl ∧ PyData.strOk t = true ∧ Tr ks (S ++ [.str t]) r S') ∨
    (t = sCl ∧ ∃ S0 c p ps, S = S0 ++ (.str c :: .str sOp :: p :: intR ps) ∧ OkT ks (.tuple (.str c :: p :: ps)) ∧ PyData.depth (.tuple (.str c :: p :: ps)) ≤ 60 ∧ Tr ks (S0 ++ [.tuple (.str c :: p :: ps)]) r S') := by
  cases h with
  | push _ _ _ _ a b c => exact .inl ⟨a, b, c⟩
  | close S0 c p ps _ _ a b d => exact .inr ⟨rfl, S0, c, p, ps, rfl, a, b, d⟩
theorem Tr.fin {ks : List (Str × Int)} {S S' : List PyData} (h : Tr ks S [] S') : S = S' := by
  cases h
  rfl
theorem tok_len : ∀ (n : Nat) (d : PyData), sz d ≤ n → drawn d = true → (tok d).length + 1 ≤ 4 * sz d
  | 0, d, s, _ => absurd s (by have := sz_pos d; omega)
  | n + 1, d, s, dr => by
    rcases drawn_cases dr with ⟨c, rfl, hc⟩ | ⟨c, ps, rfl, ne, hc, hps⟩
    · rw [sz_str]
      simp [tok]
    · cases ps with
      | nil => exact absurd rfl ne
      | cons p ps =>
        have sk : ∀ q ∈ p :: ps, sz q ≤ n := fun q hq => by
          have := kid_sz (d := .tuple (.str c :: p :: ps)) (p := q) hq
          omega
        have rest : ∀ qs : List PyData, (∀ q ∈ qs, q ∈ p :: ps) → (tokR qs).length ≤ 4 * (qs.map sz).sum := by
          intro qs
          induction qs with
          | nil => intro _; simp [tokR]
          | cons q qs ih =>
            intro h
            have h1 := tok_len n q (sk q (h q (List.mem_cons_self ..))) (hps q (h q (List.mem_cons_self ..)))
            have h2 := ih fun z hz => h z (List.mem_cons_of_mem _ hz)
            simp only [tokR, List.length_cons, List.length_append, List.map_cons, List.sum_cons]
            omega
        have h1 := tok_len n p (sk p (List.mem_cons_self ..)) (hps p (List.mem_cons_self ..))
        have h2 := rest ps fun q hq => List.mem_cons_of_mem _ hq
        rw [sz_tup]
        simp only [tok, List.length_cons, List.length_append, List.map_cons, List.sum_cons, List.length_nil]
        omega
theorem dps_split {K : PySem.W.Frag} {H : Hp} : ∀ {A B : List PyData} {us : List V}, DpAll K H us (A ++ B) → ∃ u0 u1, us = u0 ++ u1 ∧ DpAll K H u0 A ∧ DpAll K H u1 B
  | [], B, us, h => ⟨[], us, rfl, .nil, h⟩
  | a :: A, B, us, h => by
    obtain ⟨v, vs, rfl, h1, h2⟩ := dpc h
    obtain ⟨u0, u1, rfl, h3, h4⟩ := dps_split h2
    exact ⟨v :: u0, u1, rfl, .cons h1 h3, h4⟩
theorem thS_mem {A B : List PyData} (h : thingAll (A ++ B) = true) {z : PyData} (hz : z ∈ A) : thing z = true := thingAll_iff.mp h z (List.mem_append_left _ hz)
theorem lv_op : ∀ x ∈ LV, x ≠ sOp := by decide +kernel
theorem drawn_op {z : PyData} (h : drawn z = true) : z ≠ .str sOp := by
  rcases drawn_cases h with ⟨c, rfl, hc⟩ | ⟨c, ps, rfl, _, _, _⟩
  · intro e
    injection e with e
    exact lv_op c hc e
  · intro e
    cases e
theorem mem_intR {z : PyData} : ∀ {ps : List PyData}, z ∈ intR ps → z = .str sCm ∨ z ∈ ps
  | q :: qs, h => by
    have h' : z = .str sCm ∨ z = q ∨ z ∈ intR qs := by simpa [intR] using h
    rcases h' with h' | h' | h'
    · exact .inl h'
    · exact .inr (by rw [h']; exact List.mem_cons_self ..)
    · exact (mem_intR h').imp id fun y => List.mem_cons_of_mem _ y
section
variable {P : Program} {w : World} {K : PySem.W.Frag} {mg : Str → Option Value} {base : Heap}
theorem scTT : FnScope nTT ["counts", "text"] (defScope sTT) := ⟨rfl, rfl, rfl, by decide +kernel, rfl, by decide +kernel, by decide +kernel⟩
theorem ok_tt {f fT fL fC fI : Addr} {fd dT dL dC dI : FuncData} (F : Fun K "thing_with_text" "thing_with_text" sTT f fd) (T : TxtTT K mg fT fL fC fI) (GT : FnOk P w K mg base CX0 1 fT dT ["text"] (spTok K)) (bT : Binds K dT ["text"] [])
    (GL : FnOk P w K mg base CX0 1 fL dL ["stack"] (spLB K)) (bL : Binds K dL ["stack"] []) (GC : FnOk P w K mg base CX0 3 fC dC ["counts", "tokens"] (spCT K)) (bC : Binds K dC ["counts", "tokens"] []) (GI : FnOk P w K mg base CX0 2 fI dI ["token"] (spIP K)) (bI : Binds K dI ["token"] []) :
    FnOk P w K mg base CX0 4 f fd ["counts", "text"] (spTT K) := by
  refine F.ok scTT (fun vs H Q E h => ?_) (fun cdv A outer s H vs Q E hr h => ?_)
  · obtain ⟨_, _, _, rfl, _⟩ := h
    rfl
  · obtain ⟨cd, d, ks, rfl, hc, num, ok, s1k, dp, k⟩ := h
    have hr1 : Room 1 _ := hr.mono (by decide)
    have hr2 : Room 2 _ := hr.mono (by decide)
    have line : sizeLine = 16777216 := sizeLine_eq
    refine ⟨_, pss_cons (ps_set (i := 2) scTT.nd rfl (.inl rfl) (pe_lst pa_nil))
      (pss_cons (ps_for PassesOwn.never rfl (pi_list (pe_call GT hr1 rfl T.gT T.kT bT .nil pass0 (pa_cons (pv 1) pa_nil))) (pg_name (i := 3) scTT.nd rfl (.inl rfl))
        (pss_cons (ps_expr (pe_bm PySem.F.plainAttrs_list PySem.F.slot_list_append PySem.F.type_list_append mt_append (pv 2) (pa_cons (pv 3) pa_nil)))
        (pss_one (ps_if (pt_cmpR op_eq (pv 3) pe_str (nomark _))
          (pss_cons (ps_set (i := 4) scTT.nd rfl (.inl rfl) (pe_op op_sub (pe_call GL hr1 rfl T.gL T.kL bL .nil pass0 (pa_cons (pv 2) pa_nil)) pe_int))
          (pss_cons (ps_set (i := 5) scTT.nd rfl (.inl rfl) (pe_ifExp (pt_cmpR op_ge (pv 4) pe_int (nomark _)) (pe_call GC hr rfl T.gC T.kC bC .nil pass0 (pa_cons (pv 0) (pa_cons (pe_slice sl_list (pv 2) (po_some (pv 4)) po_none) pa_nil))) pe_non))
          (pss_cons (ps_if (pt_cmpR op_isN (pv 5) pe_non (nomark _)) (pss_one (ps_ret pe_non)) pss_nil)
          (pss_one (ps_asg (pe_lst (pa_cons (pv 5) pa_nil)) (pg_tail (pv 2) (pv 4))))))) pss_nil))))
      (pss_one (ps_ret (pe_ifExp (PW.pt (pw_and (pt_cmpR op_eq (pe_callB call_len_seq (by rfl) T.len PySem.boot_len (pa_cons (pv 2) pa_nil)) pe_int (nomark _)) (pw_and1 (pt_val (pe_call GI hr2 rfl T.gI T.kI bI .nil pass0 (pa_cons (pe_ix ix_list (pv 2) pe_int (fun _ _ => rfl)) pa_nil))))))
        (pe_ix ix_list (pv 2) pe_int (fun _ _ => rfl)) pe_non)))), ?_⟩
    refine ⟨Nat.zero_le _, fun q hq => ?_⟩
    have e1 : upd H q (.lst []) q = some (.lst []) := upd_same
    have s1 : Same H (upd H q (.lst [])) := same_new same_rfl hq
    show Ends.nx _ _ (upd H q (.lst []))
    generalize upd H q (.lst []) = H1 at e1 s1
    refine ⟨_, rfl, d, rfl, ok.dr, by omega, fun t H2 s2 nt et => ?_⟩
    have e2 := s2 _ _ e1
    have s02 := same_tr s1 s2
    have tq : t ≠ q := fun z => by rw [z, e1] at nt; cases nt
    have tl := tok_len _ d (Nat.le_refl _) ok.dr
    have tr0 : Tr ks [] (tok d ++ []) [d] := tr_thing _ d (Nat.le_refl _) ok dp [] [] [d] (.nil _)
    rw [List.append_nil] at tr0
    refine ⟨t, rfl, ⟨_, SqL.of et⟩, ?_⟩
    refine for_list (K := K) (a := t) (xs := (tok d).map V.str) (fun i σ H' => ∃ (us : List V) (S : List PyData) (o3 o4 o5 : Option V), σ = [some (.ref cd), some (.str (txt d)), some (.ref q), o3, o4, o5] ∧ H' q = some (.lst us) ∧ DpAll K H' us S ∧ (∀ z ∈ S, Lay z) ∧ us.length ≤ i ∧ Tr ks S ((tok d).drop i) [d] ∧ (∀ b o, b ≠ q → H2 b = some o → H' b = some o))
      ⟨[], [], none, none, none, rfl, e2, .nil, (fun _ z => (List.not_mem_nil z).elim), Nat.le_refl _, tr0, fun _ _ _ z => z⟩ (fun i σ H' _ ⟨_, _, _, _, _, _, _, _, _, _, _, z⟩ => SqL.of (z _ _ tq et)) ?_ ?_
    · rintro i y σ H3 hi ⟨us, S, o3, o4, o5, rfl, eq, dS, lS, ul, tr, off⟩
      rw [List.getElem?_map] at hi
      obtain ⟨x, hx, rfl⟩ := Option.map_eq_some_iff.mp hi
      have il : i < (tok d).length := (List.getElem?_eq_some_iff.mp hx).1
      have dr : (tok d).drop i = x :: (tok d).drop (i + 1) := by
        rw [List.drop_eq_getElem_cons il]
        rw [List.getElem?_eq_getElem il] at hx
        rw [Option.some.inj hx]
      rw [dr] at tr
      have thS : thingAll S = true := thingAll_iff.mpr fun z hz => (lS z hz).th
      refine ⟨_, rfl, .inl ⟨rfl, _, SqL.of eq⟩, _, rfl, q, _, _, rfl, rfl, eq, by omega, ?_⟩
      have kt3 : KT K H3 (upd H3 q (.lst (us ++ [.str x]))) := kt_lst eq
      have d4 : DpAll K (upd H3 q (.lst (us ++ [.str x]))) (us ++ [.str x]) (S ++ [.str x]) := dps_app (ths_kt kt3 _ _ thS dS) (.cons (.str x) .nil)
      have e4 : upd H3 q (.lst (us ++ [.str x])) q = some (.lst (us ++ [.str x])) := upd_same
      have off4 : ∀ b o, b ≠ q → H2 b = some o → upd H3 q (.lst (us ++ [.str x])) b = some o := fun b o hb e => (upd_ne hb).trans (off b o hb e)
      show Ends.nx _ _ (upd H3 q (.lst (us ++ [.str x])))
      generalize upd H3 q (.lst (us ++ [.str x])) = H4 at d4 e4 off4
      rcases tr.inv with ⟨ne, so, tr'⟩ | ⟨rfl, S0, c, p, ps, rfl, okc, dpc', tr'⟩
      · refine ⟨_, rfl, rfl, _, rfl, ite2 (fun z => ?_) (fun _ => ?_)⟩
        · have := of_decide_eq_true z
          injection this with this
          exact absurd this ne
        · refine ⟨us ++ [.str x], S ++ [.str x], _, _, _, rfl, e4, d4, fun z hz => ?_, by rw [List.length_append]; simp only [List.length_cons, List.length_nil]; omega, tr', off4⟩
          rcases List.mem_append.mp hz with hz | hz
          · exact lS z hz
          · rw [List.mem_singleton.mp hz]
            exact lay_str so
      · refine ⟨_, rfl, rfl, _, rfl, ite2 (fun _ => ?_) (fun z => absurd (by simp) z)⟩
        have eS : S0 ++ (PyData.str c :: .str sOp :: p :: intR ps) ++ [.str sCl] = (S0 ++ [.str c]) ++ .str sOp :: (p :: (intR ps ++ [.str sCl])) := by simp
        have okk := okc.kid.2.2
        have lay4 : ∀ z ∈ (S0 ++ [PyData.str c]) ++ .str sOp :: (p :: (intR ps ++ [.str sCl])), Lay z := fun z hz => by
          rw [← eS] at hz
          rcases List.mem_append.mp hz with hz | hz
          · exact lS z hz
          · rw [List.mem_singleton.mp hz]
            exact lay_str (by decide +kernel)
        have no4 : ∀ z ∈ p :: (intR ps ++ [PyData.str sCl]), z ≠ .str sOp := fun z hz => by
          rcases List.mem_cons.mp hz with rfl | hz
          · exact drawn_op (okk z (List.mem_cons_self ..)).dr
          · rcases List.mem_append.mp hz with hz | hz
            · rcases mem_intR hz with rfl | hz
              · intro e
                injection e with e
                exact absurd e (by decide +kernel)
              · exact drawn_op (okk z (List.mem_cons_of_mem _ hz)).dr
            · rw [List.mem_singleton.mp hz]
              intro e
              injection e with e
              exact absurd e (by decide +kernel)
        have ul4 : (us ++ [V.str sCl]).length ≤ 10000 := by
          rw [List.length_append]
          simp only [List.length_cons, List.length_nil]
          omega
        refine ⟨_, rfl, q, _, S0 ++ [.str c], p :: (intR ps ++ [.str sCl]), rfl, e4, by rw [← eS]; exact d4, lay4, no4, ul4, _, _, rfl, rfl, ?_⟩
        have eb : (((S0 ++ [PyData.str c]).length : Nat) : Int) - 1 = (S0.length : Int) := by
          rw [List.length_append]
          simp only [List.length_cons, List.length_nil]
          omega
        dsimp only
        rw [eb]
        obtain ⟨u0, u1, eu, du0, du1⟩ := dps_split (A := S0) (B := .str c :: .str sOp :: p :: (intR ps ++ [.str sCl])) (by
          have e : S0 ++ (PyData.str c :: .str sOp :: p :: (intR ps ++ [.str sCl])) = S0 ++ (.str c :: .str sOp :: p :: intR ps) ++ [.str sCl] := by simp
          rw [e]
          exact d4)
        have l0 := dps_len du0
        refine ⟨_, rfl, _, _, rfl, rfl, _, rfl, ite2 (fun _ => ?_) (fun z => absurd (by simp) z)⟩
        refine ⟨_, rfl, _, rfl, _, rfl, _, rfl, q, _, rfl, SqL.of e4, fun m hm => ?_⟩
        have ec : cutV (us ++ [V.str sCl]) (some (S0.length : Int)) none = u1 := by
          unfold cutV
          rw [HT.sIx_nat, HT.sIx_none, eu, List.length_append, Nat.min_eq_left (by omega), List.drop_append_of_le_length (by omega), List.drop_eq_nil_of_le (by omega), List.nil_append, List.take_of_length_le (by omega)]
        rw [ec]
        have s5 : Same H4 (upd H4 m (.lst u1)) := same_new same_rfl hm
        have em : upd H4 m (.lst u1) m = some (.lst u1) := upd_same
        generalize upd H4 m (.lst u1) = H5 at s5 em
        have hc5 : Cnt H5 cd ks := by
          obtain ⟨kvs, e, r⟩ := hc
          exact ⟨kvs, s5 _ _ (off4 _ _ (ne_of_none e hq) (s02 _ _ e)), r⟩
        refine ⟨cd, m, u1, c, p, ps, ks, rfl, hc5, num, em, dps_same s5 _ _ du1, okc, dpc', fun g zs H6 s6 ng eg dz => ?_⟩
        have s46 := same_tr s5 s6
        refine ⟨_, rfl, rfl, _, rfl, ite2 (fun z => absurd z (by simp)) (fun _ => ?_)⟩
        refine ⟨_, rfl, (by show 1 ≤ sizeLine; omega), fun b hb => ?_⟩
        have s7 : Same H6 (upd H6 b (.lst [.ref g])) := same_new same_rfl hb
        have eb7 : upd H6 b (.lst [.ref g]) b = some (.lst [.ref g]) := upd_same
        generalize upd H6 b (.lst [.ref g]) = H7 at s7 eb7
        have s47 := same_tr s46 s7
        have e7 := s47 _ _ e4
        have bq : q ≠ b := fun z => by
          have := s46 _ _ e4
          rw [z, hb] at this
          cases this
        refine ⟨_, rfl, _, rfl, _, rfl, q, b, S0.length, _, _, rfl, rfl, rfl, e7, eb7, bq, by rw [eu, List.length_append]; omega, by rw [List.length_append] at ul4; rw [List.length_append]; simp only [List.length_cons, List.length_nil] at ul4 ⊢; omega, ?_⟩
        have et0 : (us ++ [V.str sCl]).take S0.length = u0 := by
          rw [eu, ← l0, List.take_left' rfl]
        rw [et0]
        have th0 : thingAll S0 = true := thingAll_iff.mpr fun z hz => thS_mem thS hz
        have kt7 : KT K H7 (upd H7 q (.lst (u0 ++ [.ref g]))) := kt_lst e7
        have dt : DpAll K (upd H7 q (.lst (u0 ++ [.ref g]))) (u0 ++ [.ref g]) (S0 ++ [.tuple (.str c :: p :: ps)]) := dps_app (ths_kt kt7 _ _ th0 (dps_same s47 _ _ du0)) (.cons (th_kt kt7 _ _ (drawn_th okc.dr) (.tup (SqT.of (s7 _ _ eg)) (dps_same s7 _ _ dz))) .nil)
        refine ⟨u0 ++ [.ref g], S0 ++ [.tuple (.str c :: p :: ps)], _, _, _, rfl, upd_same, dt, fun z hz => ?_, ?_, tr', fun b1 o1 h1 e1 => (upd_ne h1).trans (s47 _ _ (off4 b1 o1 h1 e1))⟩
        · rcases List.mem_append.mp hz with hz | hz
          · exact lS z (List.mem_append_left _ hz)
          · rw [List.mem_singleton.mp hz]
            exact lay_drawn okc.dr dpc'
        · have := congrArg List.length eu
          rw [List.length_append, List.length_append] at this
          rw [List.length_append]
          have l1 := dps_len du1
          simp only [List.length_cons, List.length_nil, List.length_append] at this l1 ⊢
          omega
    · rintro σ H3 ⟨us, S, o3, o4, o5, rfl, eq, dS, lS, ul, tr, off⟩
      rw [List.length_map, List.drop_eq_nil_of_le (Nat.le_refl _)] at tr
      have eS := tr.fin
      subst eS
      obtain ⟨v, vs, rfl, dv, dn⟩ := dpc dS
      obtain rfl := dpn dn
      have s3 : Same H H3 := fun b o e => off b o (ne_of_none e hq) (s02 b o e)
      refine ⟨_, rfl, q, _, rfl, .inl (SqL.of eq), rfl, _, rfl, ite2 (fun _ => ?_) (fun z => absurd (by simp) z)⟩
      refine ⟨_, rfl, q, _, _, _, rfl, rfl, SqL.of eq, at0, v, d, rfl, dv, ok.dr, fun H4 s4 => ⟨_, rfl, ite2 (fun _ => ?_) (fun z => absurd rfl z)⟩⟩
      exact ⟨_, rfl, q, _, _, _, rfl, rfl, SqL.of (s4 _ _ eq), at0, k v H4 (same_tr s3 s4) (dp_same s4 d v dv)⟩
end
end K12

set_option Elab.async false
set_option linter.all false
set_option maxRecDepth 100000
set_option maxHeartbeats 4000000
/-! number_in(word), _number_of_things(line). -/
namespace K12
open PySem PySem.Spec PyProof.Rows L2 Mine TL StX SkE
abbrev sNI : Stmt := top 21
abbrev nNI : List Str := ["word", "sign", "number"]
abbrev nums (n : Nat) : Str := num ((n : Nat) : Int)
def valN (l : List Nat) : Int := l.foldl (fun (a : Int) (c : Nat) => 10 * a + ((c : Int) - 48)) 0
theorem nm_dig : ∀ n ≤ 20, (nums n).cps.toList.all (inS DIG) = true := by decide +kernel
theorem nm_ne : ∀ n ≤ 20, nums n ≠ Str.empty := by decide +kernel
theorem nm_len : ∀ n ≤ 20, (nums n).length ≤ 2 ∧ 1 ≤ (nums n).length := by decide +kernel
theorem nm_val : ∀ n ≤ 20, valN (nums n).cps.toList = (n : Int) := by decide +kernel
theorem nm_zero : ∀ n ≤ 20, (⟨#[(nums n).cps.toList.getD 0 0]⟩ : Str) ≠ PySem.Str.ofString "0" ∨ (nums n).length ≤ 1 := by decide +kernel
theorem dig_int : ∀ c ∈ DIG.cps.toList, PySem.intText? ⟨#[c]⟩ = some ((c : Int) - 48) := by decide +kernel
def spNI : Sp := fun vs H Q _ => ∃ n : Nat, vs = [.str (nums n)] ∧ n ≤ 20 ∧ ∀ H', Same H H' → Q (.int (n : Int)) H'
structure TxtNI (mg : Str → Option Value) : Prop where
  all : mg "all" = none
  len : mg "len" = none
  int : mg "int" = none
  digits : ∃ u, mg "DIGITS" = some u ∧ RelV (.str DIG) u
section
variable {P : Program} {w : World} {K : PySem.W.Frag} {mg : Str → Option Value} {base : Heap}
theorem scNI : FnScope nNI ["word"] (defScope sNI) := ⟨rfl, rfl, rfl, by decide +kernel, rfl, by decide +kernel, by decide +kernel⟩
theorem ok_ni {f : Addr} {fd : FuncData} (F : Fun K "number_in" "number_in" sNI f fd) (T : TxtNI mg) : FnOk P w K mg base CX0 1 f fd ["word"] spNI := by
  refine F.ok scNI (fun vs H Q E h => ?_) (fun cdv A outer s H vs Q E hr h => ?_)
  · obtain ⟨_, rfl, _⟩ := h
    rfl
  · obtain ⟨n, rfl, n20, k⟩ := h
    have line : sizeLine = 16777216 := sizeLine_eq
    refine ⟨_, pss_cons (ps_if (PW.pt (pw_or (pt_cmpR op_eq (pv 0) pe_str (nomark _)) (pw_or1 (pt_not (pt_val (pe_callB (cr_all rfl) (by rfl) T.all (by decide +kernel) (pa_cons (pe_lc (own := [("sign", 1)]) (g := gName 1) (tt := tYes) rfl scNI.nd (pi_str (pv 0))
        (blkOk_by (own := [("sign", 1)]) (N := nNI) (sc := defScope sNI) (by decide +kernel))
        (fun _ _ _ _ _ => pg_name (i := 1) scNI.nd rfl (Or.inl rfl)) (fun _ _ _ _ _ => pts_nil) (fun _ _ _ _ _ => pe_cmpR op_in_sign (pv 1) (C8.pe_gc (v := .str DIG) (by rfl) T.digits) (by with_unfolding_all rfl))) pa_nil))))))) (pss_one (ps_ret pe_non)) pss_nil)
      (pss_cons (ps_if (PW.pt (pw_and (pt_cmpR op_eq (pe_ix ix_str (pv 0) pe_int (fun _ _ => rfl)) pe_str (nomark _)) (pw_and1 (pt_cmpR op_gt (pe_callB call_len_str (by rfl) T.len PySem.boot_len (pa_cons (pv 0) pa_nil)) pe_int (nomark _))))) (pss_one (ps_ret pe_non)) pss_nil)
      (pss_cons (ps_set (i := 2) scNI.nd rfl (.inl rfl) pe_int)
      (pss_cons (ps_for PassesOwn.never rfl (pi_str (pv 0)) (pg_name (i := 1) scNI.nd rfl (.inl rfl)) (pss_one (ps_set (i := 2) scNI.nd rfl (.inl rfl) (pe_op op_add (pe_op op_mul pe_int (pv 2)) (pe_callTy call_int_str (by rfl) T.int (by decide +kernel) (pa_cons (pv 1) pa_nil))))))
      (pss_one (ps_ret (pv 2)))))), ?_⟩
    obtain ⟨nl2, nl1⟩ := nm_len n n20
    have dig := nm_dig n n20
    have val := nm_val n n20
    have ne := nm_ne n n20
    have zero := nm_zero n n20
    generalize nums n = x at nl1 nl2 dig val ne zero
    have xl : x.cps.toList.length = x.length := by simp [Str.length]
    refine ⟨_, rfl, rfl, _, rfl, ite2 (fun z => absurd (of_decide_eq_true z) (fun e => ne (by injection e))) (fun _ => ?_)⟩
    refine ⟨_, rfl, x, rfl, fun D hD => ?_⟩
    refine lc_it walk_str (fun i H' => H' = upd H D (.lst (((x.cps.toList.take i).map (inS DIG)).map V.bl))) rfl (fun _ _ _ _ => trivial) ?_ ?_
    · rintro i y H1 H2 hi rfl ⟨rfl, c, hc, rfl⟩
      have hc' : x.cps.toList[i]? = some c := by rw [Array.getElem?_toList]; exact hc
      refine ⟨rfl, ?_⟩
      refine yes_if ?_
      refine ⟨_, rfl, c, _, rfl, rfl, _, upd_same, ?_, ?_⟩
      · rw [List.length_map, List.length_map, List.length_take]
        omega
      · rw [upd_upd, bools_snoc hc']
        rfl
    rintro H1 rfl
    refine ⟨D, _, rfl, SqL.of upd_same, ?_⟩
    have hs : x.cps.size = x.length := rfl
    rw [List.take_of_length_le (by rw [xl, hs]; omega), bools_all, dig]
    refine ⟨_, rfl, ite2 (fun z => absurd z (by decide)) (fun _ => ?_)⟩
    have s1 : Same H (upd H D (.lst ((x.cps.toList.map (inS DIG)).map V.bl))) := same_new same_rfl hD
    generalize upd H D (.lst ((x.cps.toList.map (inS DIG)).map V.bl)) = H1 at s1
    obtain ⟨c0, r0, hx⟩ : ∃ c0 r0, x.cps.toList = c0 :: r0 := by
      cases q : x.cps.toList with
      | nil => rw [q] at xl; simp at xl; omega
      | cons c0 r0 => exact ⟨c0, r0, rfl⟩
    have tail : tSeq (tAsg (tC (V.int 0)) (gName 2)) (tSeq (tFor (iStr (tVar 0)) (gName 1) (tAsg (tOp (rI0 fun i j => V.int (i + j)) (tOp (rI CMul fun i j => V.int (i * j)) (tC (V.int 10)) (tVar 2)) (tCB (fun xs H Q => ∃ a n, xs = [V.str a] ∧ PySem.intText? a = some n ∧ a.length ≤ 640 ∧ Q (V.int n) H) (tCons (tVar 1) tNil))) (gName 2))) (tRet (tVar 2))) { nx := fun x H' => Q V.non H', rt := Q } (L2.start nNI [V.str x]) H1 := by
      refine ⟨_, rfl, x, rfl, ?_⟩
      refine for_it walk_str (fun i σ H' => ∃ o1 : Option V, σ = [some (.str x), o1, some (.int (valN (x.cps.toList.take i)))] ∧ Same H H') ⟨none, rfl, s1⟩ (fun _ _ _ _ _ => trivial) ?_ ?_
      · rintro i y σ H2 H3 hi ⟨o1, rfl, sm⟩ ⟨rfl, c, hc, rfl⟩
        have hc' : x.cps.toList[i]? = some c := by rw [Array.getElem?_toList]; exact hc
        have cd : c ∈ DIG.cps.toList := by
          have := List.all_eq_true.mp dig c (List.mem_of_getElem? hc')
          exact of_decide_eq_true this
        refine ⟨_, rfl, _, _, rfl, rfl, .inl ⟨by decide, by decide⟩, _, rfl, ⟨#[c]⟩, (c : Int) - 48, rfl, dig_int c cd, by show 1 ≤ 640; decide, _, _, rfl, rfl, some (.str ⟨#[c]⟩), ?_, sm⟩
        have tk : x.cps.toList.take (i + 1) = x.cps.toList.take i ++ [c] := by rw [List.take_add_one, hc']; rfl
        have e : valN (x.cps.toList.take (i + 1)) = 10 * valN (x.cps.toList.take i) + ((c : Int) - 48) := by
          rw [tk]
          unfold valN
          rw [List.foldl_append]
          rfl
        rw [e]
        rfl
      · rintro σ H2 ⟨o1, rfl, sm⟩
        refine ⟨_, rfl, ?_⟩
        rw [List.take_of_length_le (by rw [xl, hs]; omega), val]
        exact k _ sm
    refine ⟨_, rfl, x, 0, c0, rfl, rfl, by omega, (by rw [hx]; exact at0), rfl, _, rfl, ite2 (fun z => ?_) (fun _ => ?_)⟩
    · have l1 : x.length ≤ 1 := by
        rcases zero with zero | zero
        · exfalso
          apply zero
          rw [hx]
          have := of_decide_eq_true z
          injection this
        · exact zero
      refine ⟨_, rfl, x, rfl, by omega, _, _, rfl, rfl, _, rfl, ite2 (fun z2 => ?_) (fun _ => tail)⟩
      have := of_decide_eq_true z2
      omega
    · exact ite2 (fun z => absurd z (by decide)) (fun _ => tail)
end
end K12

set_option Elab.async false
set_option linter.all false
set_option maxRecDepth 100000
set_option maxHeartbeats 4000000
/-! _number_of_things(line), Row.read(book, text). -/
namespace K12
open PySem PySem.Spec PyProof.Rows L2 Mine TL StX SkE
abbrev sNT : Stmt := top 50
abbrev sRd : Stmt := inClass (top 49) 6
abbrev rowL (n : Nat) : Str := Str.empty ++ PySem.Str.ofString "row " ++ nums n
theorem split_row : ∀ n ≤ 20, Txt.split (rowL n) (PySem.Str.ofString " ") = [PySem.Str.ofString "row", nums n] := by decide +kernel
theorem rowL_len : ∀ n ≤ 20, (rowL n).length ≤ 10 := by decide +kernel
theorem rowL_nl : ∀ n ≤ 20, 10 ∉ tl (rowL n) := by decide +kernel
def spNT : Sp := fun vs H Q _ => ∃ n : Nat, vs = [.str (rowL n)] ∧ n ≤ 20 ∧ ∀ H', Same H H' → Q (.int (n : Int)) H'
structure TxtNT (K : PySem.W.Frag) (mg : Str → Option Value) (fN : Addr) : Prop where
  len : mg "len" = none
  gN : mg "number_in" = some (.ref fN)
  kN : PySem.W.keepIn K (.ref fN) = true
section
variable {P : Program} {w : World} {K : PySem.W.Frag} {mg : Str → Option Value} {base : Heap}
theorem scNT : FnScope ["line", "words"] ["line"] (defScope sNT) := ⟨rfl, rfl, rfl, by decide +kernel, rfl, by decide +kernel, by decide +kernel⟩
theorem ok_nt {f fN : Addr} {fd dN : FuncData} (F : Fun K "_number_of_things" "_number_of_things" sNT f fd) (T : TxtNT K mg fN) (GN : FnOk P w K mg base CX0 1 fN dN ["word"] spNI) (bN : Binds K dN ["word"] []) : FnOk P w K mg base CX0 2 f fd ["line"] spNT := by
  refine F.ok scNT (fun vs H Q E h => ?_) (fun cdv A outer s H vs Q E hr h => ?_)
  · obtain ⟨_, rfl, _⟩ := h
    rfl
  · obtain ⟨n, rfl, n20, k⟩ := h
    have line : sizeLine = 16777216 := sizeLine_eq
    have rl := rowL_len n n20
    refine ⟨_, pss_cons (ps_set (i := 1) scNT.nd rfl (.inl rfl) (pe_m1 PySem.F.slot_str_split PySem.F.type_str_split mt_split (pv 0) pe_str))
      (pss_one (ps_ret (pe_ifExp (PW.pt (pw_and (pt_cmpR op_eq (pe_callB call_len_seq (by rfl) T.len PySem.boot_len (pa_cons (pv 1) pa_nil)) pe_int (nomark _)) (pw_and1 (pt_cmpR op_eq (pe_ix ix_list (pv 1) pe_int (fun _ _ => rfl)) pe_str (nomark _)))))
        (pe_call GN hr rfl T.gN T.kN bN .nil pass0 (pa_cons (pe_ix ix_list (pv 1) pe_int (fun _ _ => rfl)) pa_nil)) pe_non))), ?_⟩
    refine ⟨_, rfl, ⟨_, rfl⟩, _, _, rfl, rfl, by decide +kernel, by omega, fun L hL => ?_⟩
    rw [split_row n n20]
    have s1 : Same H (upd H L (.lst ([PySem.Str.ofString "row", nums n].map V.str))) := same_new same_rfl hL
    have e1 : upd H L (.lst ([PySem.Str.ofString "row", nums n].map V.str)) L = some (.lst [.str (PySem.Str.ofString "row"), .str (nums n)]) := upd_same
    show Ends.nx _ _ (upd H L (.lst ([PySem.Str.ofString "row", nums n].map V.str)))
    generalize upd H L (.lst ([PySem.Str.ofString "row", nums n].map V.str)) = H1 at s1 e1
    refine ⟨_, rfl, L, _, rfl, .inl (SqL.of e1), rfl, _, rfl, ite2 (fun _ => ?_) (fun z => absurd (by simp) z)⟩
    refine ⟨_, rfl, L, _, _, _, rfl, rfl, SqL.of e1, at0, rfl, _, rfl, ite2 (fun _ => ?_) (fun z => absurd (by simp) z)⟩
    exact ⟨_, rfl, L, _, _, _, rfl, rfl, SqL.of e1, atI_nat (j := 1) rfl, n, rfl, n20, fun H2 s2 => k _ (same_tr s1 s2)⟩
theorem made_row {CB CR x dx b t : Addr} {ks : List (Str × Int)} {os : List Opn} {ws : List V} {ds : List PyData} {H : Hp} {R : Hp → Prop} {E : XK} (hb : BkAt K CB H b ks os) (ht : SqT K H t ws) (hd : DpAll K H ws ds) (ok : OkR ks ds) (nx : H x = none) (ndx : H dx = none) (ne : dx ≠ x)
    (k : ∀ H', Same H H' → RowAt K CB CR H' x ks os ds → R H') : spRInit K CB CR (.ref x :: ([.ref b, .ref t] ++ [])) (upd (upd H dx (.own x)) x (.ins CR dx [])) (fun v H2 => v = .non ∧ R H2) E := by
  have s1 : Same H (upd (upd H dx (.own x)) x (.ins CR dx [])) := fun b o e => (upd_ne (ne_of_none e nx)).trans ((upd_ne (ne_of_none e ndx)).trans e)
  refine ⟨x, dx, b, t, ks, os, ws, ds, rfl, upd_same, hb.same s1, kt_same s1 _ _ ht, dps_same s1 _ _ hd, ok, fun n p ys ps pds H' off hx hn hp dp th asc => ⟨rfl, ?_⟩⟩
  have s2 : Same H H' := fun c o e => off c o (ne_of_none e nx) (s1 _ _ e)
  exact k H' s2 ⟨⟨dx, b, t, n, p, ws, ps, pds, ys, hx, hb.same s2, kt_same s2 _ _ ht, dps_same s2 _ _ hd, hn, hp, dp, th, asc⟩, ok⟩
theorem walk_enumS {K : PySem.W.Frag} {c : Int} {a : Addr} {xs : List V} : Walk (IteS K c a) xs.length (fun H => SqL K H a xs) (fun i H v H' => ∃ T x, v = .ref T ∧ H T = none ∧ H' = upd H T (.tup [.int (c + (i : Nat)), x]) ∧ xs[i]? = some x) :=
  ⟨fun i _ hi q => ⟨xs, xs[i], q, by simp [hi]⟩, fun _ q => ⟨xs, q, Nat.le_refl _⟩, fun i H v H' _ q y => let ⟨T, x, h1, h2, h3, h4⟩ := y; ⟨T, x, h1, h2, h3, h4 xs q⟩⟩
theorem non_dp {K : PySem.W.Frag} {H : Hp} {d : PyData} (h : thing d = true) (v : Dp K H .non d) : False := by
  rcases thing_cases h with ⟨c, rfl⟩ | ⟨c, ps, rfl, _⟩ <;> cases v
theorem txt_nl {d : PyData} (h : drawn d = true) : 10 ∉ tl (txt d) := fun hc => by
  have a := List.all_eq_true.mp (drawn_sign _ d (Nat.le_refl _) h) 10 hc
  exact absurd a (by decide)
theorem row_split {ds : List PyData} (h : ∀ d ∈ ds, drawn d = true) (l : ds.length ≤ 20) : Txt.split (rowT ds) nlS = rowL ds.length :: ds.map txt := by
  refine split_page (List.cons_ne_nil _ _) fun x hx => ?_
  rcases List.mem_cons.mp hx with rfl | hx
  · exact rowL_nl _ l
  · obtain ⟨d, hd, rfl⟩ := List.mem_map.mp hx
    exact txt_nl (h d hd)
theorem row_len {ks : List (Str × Int)} {ds : List PyData} (ok : OkR ks ds) (l : ds.length ≤ 20) : (rowT ds).length ≤ 1000000 := by
  have h1 : (Str.join nlS (rowL ds.length :: ds.map txt)).length ≤ ((rowL ds.length :: ds.map txt).map (·.length)).sum + (rowL ds.length :: ds.map txt).length * nlS.length := StrLaws.join_length_le nlS _
  have h2 := sum_leS (l := rowL ds.length :: ds.map txt) (c := 44000) fun x hx => by
    rcases List.mem_cons.mp hx with rfl | hx
    · have := rowL_len _ l
      omega
    · obtain ⟨d, hd, rfl⟩ := List.mem_map.mp hx
      have a := drawn_txt _ d (Nat.le_refl _) (ok.each d hd).dr
      have b := ok.szs hd
      omega
  have h3 : nlS.length = 1 := by decide +kernel
  rw [h3] at h1
  rw [List.length_cons, List.length_map] at h1 h2
  have h4 : 44000 * (ds.length + 1) ≤ 44000 * 21 := Nat.mul_le_mul_left _ (by omega)
  have h5 : rowT ds = Str.join nlS (rowL ds.length :: ds.map txt) := join_eq _ _
  rw [h5]
  omega
abbrev nRd : List Str := ["cls", "book", "text", "lines", "many", "counts", "things", "number", "line", "thing"]
def spRd (K : PySem.W.Frag) (CB CR : Addr) : Sp := fun vs H Q _ => ∃ (b : Addr) (ks : List (Str × Int)) (os : List Opn) (ds : List PyData), vs = [.ref CR, .ref b, .str (rowT ds)] ∧ BkAt K CB H b ks os ∧ OkR ks ds ∧ ds.length ≤ 10 ∧ (ds.flatMap lot).length ≤ 100 ∧ (∀ d ∈ ds, PyData.depth d ≤ 60) ∧
  ∀ (x : Addr) (H' : Hp), Same H H' → H x = none → RowAt K CB CR H' x ks os ds → Q (.ref x) H'
structure TxtRd (K : PySem.W.Frag) (mg : Str → Option Value) (CB fN fT : Addr) : Prop where
  cl : Cls K CB
  nK : NoAttr K CB "kinds"
  isi : mg "isinstance" = none
  str : mg "str" = none
  dict : mg "dict" = none
  enum : mg "enumerate" = none
  len : mg "len" = none
  tuple : mg "tuple" = none
  gN : mg "_number_of_things" = some (.ref fN)
  kN : PySem.W.keepIn K (.ref fN) = true
  gT : mg "thing_with_text" = some (.ref fT)
  kT : PySem.W.keepIn K (.ref fT) = true
theorem scRd : FnScope nRd ["cls", "book", "text"] (defScope sRd) := ⟨rfl, rfl, rfl, by decide +kernel, rfl, by decide +kernel, by decide +kernel⟩
theorem ok_rd {f CB CR fN fT fI : Addr} {fd dN dT dI : FuncData} (F : Fun K "read" "Row.read" sRd f fd) (T : TxtRd K mg CB fN fT) (GN : FnOk P w K mg base CX0 2 fN dN ["line"] spNT) (bN : Binds K dN ["line"] [])
    (GT : FnOk P w K mg base CX0 4 fT dT ["counts", "text"] (spTT K)) (bT : Binds K dT ["counts", "text"] []) (M : Mk K CR fI) (GI : FnOk P w K mg base CX0 4 fI dI ["self", "book", "things"] (spRInit K CB CR)) (bI : Binds K dI ["self", "book", "things"] []) :
    FnOk P w K mg base CX0 6 f fd ["cls", "book", "text"] (spRd K CB CR) := by
  refine F.ok scRd (fun vs H Q E h => ?_) (fun cdv A outer s H vs Q E hr h => ?_)
  · obtain ⟨_, _, _, _, rfl, _⟩ := h
    rfl
  · obtain ⟨b, ks, os, ds, rfl, B, okR, l10, m100, dep, k⟩ := h
    have hr2 : Room 2 _ := hr.mono (by decide)
    have hr4 : Room 4 _ := hr.mono (by decide)
    have line : sizeLine = 16777216 := sizeLine_eq
    refine ⟨_, pss_cons (ps_if (pt_not (pt_val (pe_callB call_isi (by rfl) T.isi (by decide +kernel) (pa_cons (pv 2) (pa_cons (pe_bltn (v := .ty "str") rfl T.str (by decide +kernel) rfl) pa_nil))))) (pss_one ps_dead) pss_nil)
      (pss_cons (ps_set (i := 3) scRd.nd rfl (.inl rfl) (pe_m1 PySem.F.slot_str_split PySem.F.type_str_split mt_split (pv 2) pe_str))
      (pss_cons (ps_set (i := 4) scRd.nd rfl (.inl rfl) (pe_call GN hr2 rfl T.gN T.kN bN .nil pass0 (pa_cons (pe_ix ix_list (pv 3) pe_int (fun _ _ => rfl)) pa_nil)))
      (pss_cons (ps_if (pt_cmpR op_isN (pv 4) pe_non (nomark _)) (pss_one ps_dead) pss_nil)
      (pss_cons (ps_set (i := 5) scRd.nd rfl (.inl rfl) (pe_callTy (call_dictPT rfl) (by rfl) T.dict (by decide +kernel) (pa_cons (pe_fld (pv 1) rfl) pa_nil)))
      (pss_cons (ps_set (i := 6) scRd.nd rfl (.inl rfl) (pe_lst pa_nil))
      (pss_cons (ps_for PassesOwn.never rfl (pi_enumS (c := 2) rfl T.enum (pa_cons (pe_slice sl_list (pv 3) (po_some pe_int) po_none) pa_nil) (pk_cons pe_int pk_nil)) (pg_tup rfl (pgs_cons (pg_name (i := 7) scRd.nd rfl (.inl rfl)) (pgs_cons (pg_name (i := 8) scRd.nd rfl (.inl rfl)) pgs_nil)))
        (pss_cons (ps_set (i := 9) scRd.nd rfl (.inl rfl) (pe_call GT hr4 rfl T.gT T.kT bT .nil pass0 (pa_cons (pv 5) (pa_cons (pv 8) pa_nil))))
        (pss_cons (ps_if (PW.pt (pw_or (pt_cmpR op_isN (pv 9) pe_non (nomark _)) (pw_or1 (pt_cmpR op_eq (pe_callB call_len_seq (by rfl) T.len PySem.boot_len (pa_cons (pv 6) pa_nil)) (pv 4) (nomark _))))) (pss_one ps_dead) pss_nil)
        (pss_one (ps_expr (pe_bm PySem.F.plainAttrs_list PySem.F.slot_list_append PySem.F.type_list_append mt_append (pv 6) (pa_cons (pv 9) pa_nil)))))))
      (pss_cons (ps_if (pt_cmpR op_lt (pe_callB call_len_seq (by rfl) T.len PySem.boot_len (pa_cons (pv 6) pa_nil)) (pv 4) (nomark _)) (pss_one ps_dead) pss_nil)
      (pss_one (ps_ret (pe_makeL M GI hr (pv 0) bI .nil pass0 (pa_cons (pv 1) (pa_cons (pe_callTy call_tuple_of (by rfl) T.tuple (by decide +kernel) (pa_cons (pv 6) pa_nil)) pa_nil)))))))))))), ?_⟩
    obtain ⟨dxb, kk, oo, ps0, as0, hxb, hk, hO⟩ := id B.ex
    have sp := row_split (fun d hd => (okR.each d hd).dr) (by omega : ds.length ≤ 20)
    have tl := row_len okR (by omega : ds.length ≤ 20)
    refine ⟨_, rfl, _, _, _, _, true, rfl, .ty "str", .base (.str _), kit_ty rfl, _, rfl, ite2 (fun z => absurd z (by decide)) (fun _ => ?_)⟩
    refine ⟨_, rfl, ⟨_, rfl⟩, _, _, rfl, rfl, by decide +kernel, by omega, fun L hL => ?_⟩
    have sp' : Txt.split (rowT ds) (PySem.Str.ofString "\n") = rowL ds.length :: ds.map txt := sp
    rw [sp']
    have s1 : Same H (upd H L (.lst ((rowL ds.length :: ds.map txt).map V.str))) := same_new same_rfl hL
    have e1 : upd H L (.lst ((rowL ds.length :: ds.map txt).map V.str)) L = some (.lst (.str (rowL ds.length) :: (ds.map txt).map V.str)) := upd_same
    show Ends.nx _ _ (upd H L (.lst ((rowL ds.length :: ds.map txt).map V.str)))
    generalize upd H L (.lst ((rowL ds.length :: ds.map txt).map V.str)) = H1 at s1 e1
    refine ⟨_, rfl, L, _, _, _, rfl, rfl, SqL.of e1, at0, ds.length, rfl, by omega, fun H2 s2 => ?_⟩
    have s02 := same_tr s1 s2
    refine ⟨_, rfl, rfl, _, rfl, ite2 (fun z => absurd z (by simp)) (fun _ => ?_)⟩
    have hk2 := hk.same s02
    refine ⟨_, rfl, b, CB, dxb, _, _, rfl, s02 _ _ hxb, T.cl, T.nK, rfl, kk, ps0, _, rfl, hk2.at_, paired_kv hk2.each, fun cd hcd => ?_⟩
    have cn : Cnt (upd H2 cd (.dK (mergeK [] (ks.map kvOf)))) cd ks := cnt_new B.kok.nd
    have s3 : Same H2 (upd H2 cd (.dK (mergeK [] (ks.map kvOf)))) := same_new same_rfl hcd
    show Ends.nx _ _ (upd H2 cd (.dK (mergeK [] (ks.map kvOf))))
    generalize upd H2 cd (.dK (mergeK [] (ks.map kvOf))) = H3 at cn s3
    refine ⟨Nat.zero_le _, fun th hth => ?_⟩
    have s4 : Same H3 (upd H3 th (.lst [])) := same_new same_rfl hth
    have e4 : upd H3 th (.lst []) th = some (.lst []) := upd_same
    have nth : H th = none := none_same (same_tr s02 s3) hth
    show Ends.nx _ _ (upd H3 th (.lst []))
    generalize upd H3 th (.lst []) = H4 at s4 e4
    have s14 := same_tr s2 (same_tr s3 s4)
    have s04 := same_tr s1 s14
    refine ⟨_, rfl, _, rfl, L, _, rfl, SqL.of (s14 _ _ e1), fun L1 hL1 => ?_⟩
    rw [cut1']
    have s5 : Same H4 (upd H4 L1 (.lst ((ds.map txt).map V.str))) := same_new same_rfl hL1
    have e5 : upd H4 L1 (.lst ((ds.map txt).map V.str)) L1 = some (.lst ((ds.map txt).map V.str)) := upd_same
    have th5 := s5 _ _ e4
    have L1th : L1 ≠ th := fun z => by rw [z, e4] at hL1; cases hL1
    generalize upd H4 L1 (.lst ((ds.map txt).map V.str)) = H5 at s5 e5 th5
    have s05 := same_tr s04 s5
    have cn5 := cn.same (same_tr s4 s5)
    have cdth : cd ≠ th := fun z => by
      obtain ⟨kvs, ec, _⟩ := cn
      rw [z, hth] at ec
      cases ec
    refine ⟨L1, _, rfl, SqL.of e5, rfl, SqL.of e5, by decide, by decide, ?_⟩
    refine for_it (walk_enumS (K := K) (c := 2) (a := L1) (xs := (ds.map txt).map V.str)) (fun i σ H' => ∃ (zs : List V) (o7 o8 o9 : Option V), σ = [some (.ref CR), some (.ref b), some (.str (rowT ds)), some (.ref L), some (.int (ds.length : Nat)), some (.ref cd), some (.ref th), o7, o8, o9] ∧ H' th = some (.lst zs) ∧ DpAll K H' zs (ds.take i) ∧ (∀ b1 o1, b1 ≠ th → H5 b1 = some o1 → H' b1 = some o1))
      ⟨[], none, none, none, rfl, th5, .nil, fun _ _ _ z => z⟩ (fun i σ H' _ ⟨_, _, _, _, _, _, _, z⟩ => SqL.of (z _ _ L1th e5)) ?_ ?_
    · rintro i v σ H6 H7 hi ⟨zs, o7, o8, o9, rfl, eth, dz, off⟩ ⟨T', x, rfl, nT, rfl, hx⟩
      rw [List.getElem?_map] at hx
      obtain ⟨tx1, htx, rfl⟩ := Option.map_eq_some_iff.mp hx
      rw [List.getElem?_map] at htx
      obtain ⟨d, hdi, rfl⟩ := Option.map_eq_some_iff.mp htx
      have il : i < ds.length := (List.getElem?_eq_some_iff.mp hdi).1
      have md := List.mem_of_getElem? hdi
      have zl := dps_len dz
      rw [List.length_take] at zl
      have s7 : Same H6 (upd H6 T' (.tup [.int (2 + (i : Nat)), .str (txt d)])) := same_new same_rfl nT
      have e7 : upd H6 T' (.tup [.int (2 + (i : Nat)), .str (txt d)]) T' = some (.tup [.int (2 + (i : Nat)), .str (txt d)]) := upd_same
      generalize upd H6 T' (.tup [.int (2 + (i : Nat)), .str (txt d)]) = H7 at s7 e7
      refine ⟨T', _, rfl, SqT.of e7, rfl, _, _, rfl, _, _, rfl, rfl, ?_⟩
      have cn7 : Cnt H7 cd ks := by
        obtain ⟨kvs, ec, r⟩ := cn5
        exact ⟨kvs, s7 _ _ (off _ _ cdth ec), r⟩
      have szd : sz d ≤ 1000 := by
        have : sz d ≤ (ds.flatMap lot).length := flat_ge md
        omega
      refine ⟨_, rfl, _, rfl, cd, d, ks, rfl, cn7, (fun p hp => (B.kok.num p hp).2), okR.each d md, szd, dep d md, fun v H8 s8 dv => ?_⟩
      have s68 := same_tr s7 s8
      have vn : v ≠ .non := fun z => by rw [z] at dv; exact non_dp (drawn_th (okR.each d md).dr) dv
      refine ⟨_, rfl, rfl, _, rfl, ite2 (fun z => absurd (of_decide_eq_true z) vn) (fun _ => ?_)⟩
      refine ⟨_, rfl, th, _, rfl, .inl (SqL.of (s68 _ _ eth)), _, rfl, rfl, _, rfl, ite2 (fun z => ?_) (fun _ => ?_)⟩
      · have z' := of_decide_eq_true z
        injection z' with z'
        omega
      · have eth8 := s68 _ _ eth
        refine ⟨_, rfl, .inl ⟨rfl, _, SqL.of eth8⟩, _, rfl, th, _, _, rfl, rfl, eth8, by omega, zs ++ [v], _, _, _, rfl, upd_same, ?_, fun b1 o1 h1 e1 => (upd_ne h1).trans (s68 _ _ (off b1 o1 h1 e1))⟩
        have kt : KT K H8 (upd H8 th (.lst (zs ++ [v]))) := kt_lst eth8
        have tk : ds.take (i + 1) = ds.take i ++ [d] := by rw [List.take_add_one, hdi]; rfl
        rw [tk]
        refine dps_app (ths_kt kt _ _ (thingAll_iff.mpr fun z hz => drawn_th (okR.each z (List.mem_of_mem_take hz)).dr) (dps_same s68 _ _ dz)) (.cons (th_kt kt _ _ (drawn_th (okR.each d md).dr) dv) .nil)
    · rintro σ H6 ⟨zs, o7, o8, o9, rfl, eth, dz, off⟩
      rw [List.length_map, List.length_map, List.take_of_length_le (Nat.le_refl _)] at dz
      have zl := dps_len dz
      have s06 : Same H H6 := fun b1 o1 e1 => off b1 o1 (ne_of_none e1 nth) (s05 _ _ e1)
      refine ⟨_, rfl, th, _, rfl, .inl (SqL.of eth), _, rfl, _, _, rfl, rfl, _, rfl, ite2 (fun z => ?_) (fun _ => ?_)⟩
      · have := of_decide_eq_true z
        omega
      · have th0 := thingAll_iff.mpr fun z hz => drawn_th (okR.each z hz).dr
        have s5a : Same H H6 := s06
        refine ⟨_, rfl, rfl, _, rfl, _, rfl, th, zs, rfl, .inl ⟨SqL.of eth, fun a ha => ?_⟩⟩
        have s6 : Same H6 (upd H6 a (.tup zs)) := same_new same_rfl ha
        refine fun x dx nx ndx ne => made_row (E := E0) (B.same (same_tr s06 s6)) (SqT.of upd_same) (dps_same s6 _ _ dz) okR nx ndx ne fun H7 s7 R7 => ?_
        exact k x H7 (same_tr s06 (same_tr s6 s7)) (none_same (same_tr s06 s6) nx) R7
end
end K12

set_option Elab.async false
set_option linter.all false
set_option maxRecDepth 100000
set_option maxHeartbeats 4000000
/-! What an opening needs, of things anywhere. -/
namespace K12
open PySem PySem.Spec PyProof.Rows L2 Mine TL StX SkE
abbrev sNd : Stmt := top 43
abbrev sNeeded : Stmt := inClass (top 33) 6
def wantD : Nd → List PyData → Option PyData
  | .part j, ds => ds[j.toNat]?
  | .around c j, ds => (ds[j.toNat]?).map fun d => .tuple [.str c, d]
  | .inside j c, ds => (ds[j.toNat]?).bind fun d => match d with
    | .tuple (.str c' :: d1 :: _) => if c' = c then some d1 else none
    | _ => none
def optD : Option PyData → PyData
  | some d => d
  | none => .none
def allSome : List (Option PyData) → Option (List PyData)
  | [] => some []
  | none :: _ => none
  | some d :: r => (allSome r).map (d :: ·)
def needD (nn : List Nd) (ds : List PyData) : PyData := match allSome (nn.map fun n => wantD n ds) with
  | some l => .tuple l
  | none => .none
structure WOk (d : PyData) : Prop where
  th : thing d = true
  lay : d.canLay0 = true
  dep : d.depth ≤ 20
theorem want_ok {n : Nd} {ds : List PyData} {d : PyData} {ks : List (Str × Int)} {m : Int} (hp : ∀ d ∈ ds, drawn d = true ∧ PyData.depth d ≤ 10) (hn : NdOk m ks n) (hk : ∀ p ∈ ks, PyData.strOk p.1 = true) (h : wantD n ds = some d) : WOk d := by
  cases n with
  | part j =>
    have hm := List.mem_of_getElem? h
    obtain ⟨h1, h2⟩ := hp d hm
    exact ⟨drawn_th h1, drawn_lay _ d (Nat.le_refl _) h1, by omega⟩
  | around c j =>
    obtain ⟨e, he, rfl⟩ := Option.map_eq_some_iff.mp h
    have hm := List.mem_of_getElem? he
    obtain ⟨h1, h2⟩ := hp e hm
    refine ⟨?_, ?_, ?_⟩
    · simp only [thing, thingAll, drawn_th h1]
      rfl
    · simp only [PyData.canLay0, PyData.canLayAll0, Bool.and_eq_true]
      exact ⟨hk _ hn.1, drawn_lay _ e (Nat.le_refl _) h1, trivial⟩
    · simp only [PyData.depth, PyData.depthAll]
      omega
  | inside j c =>
    obtain ⟨e, he, h⟩ := Option.bind_eq_some_iff.mp h
    have hm := List.mem_of_getElem? he
    obtain ⟨h1, h2⟩ := hp e hm
    rcases drawn_cases h1 with ⟨c', rfl, _⟩ | ⟨c', ps, rfl, pne, _, hps⟩
    · cases h
    · cases ps with
      | nil => exact absurd rfl pne
      | cons d1 dr =>
      dsimp only at h
      by_cases hc : c' = c
      · rw [if_pos hc] at h
        cases h
        have hd1 := hps d (List.mem_cons_self ..)
        simp only [PyData.depth, PyData.depthAll] at h2
        exact ⟨drawn_th hd1, drawn_lay _ d (Nat.le_refl _) hd1, by omega⟩
      · rw [if_neg hc] at h
        cases h
theorem opt_kt {K : PySem.W.Frag} {H H' : Hp} (kt : KT K H H') {v : V} {x : Option PyData} (t : ∀ d, x = some d → thing d = true) (h : Dp K H v (optD x)) : Dp K H' v (optD x) := by
  cases x with
  | none =>
    cases h
    exact .non
  | some d => exact th_kt kt d v (t d rfl) h
theorem opts_kt {K : PySem.W.Frag} {H H' : Hp} (kt : KT K H H') : ∀ {vs : List V} {xs : List (Option PyData)}, (∀ d, some d ∈ xs → thing d = true) → DpAll K H vs (xs.map optD) → DpAll K H' vs (xs.map optD)
  | _, [], _, h => by
    cases h
    exact .nil
  | _, x :: xs, t, h => by
    cases h with
    | cons h1 h2 => exact .cons (opt_kt kt (fun d e => t d (by rw [e]; exact List.mem_cons_self ..)) h1) (opts_kt kt (fun d e => t d (List.mem_cons_of_mem _ e)) h2)
theorem eqv_non {d : PyData} (h : thing d = true) : PyData.eqv d .none = false := by
  rcases thing_cases h with ⟨c, rfl⟩ | ⟨c, ps, rfl, _⟩ <;> simp [PyData.eqv]
theorem any_non : ∀ (a : List (Option PyData)), (∀ d, some d ∈ a → WOk d) → ((a.map optD).any fun z => PyData.eqv z .none) = (allSome a).isNone ∧ ∀ l, allSome a = some l → a.map optD = l
  | [], _ => ⟨rfl, fun l h => by cases h; rfl⟩
  | none :: r, _ => ⟨by simp [optD, allSome, PyData.eqv], fun l h => by cases h⟩
  | some d :: r, h => by
    obtain ⟨h1, h2⟩ := any_non r fun e he => h e (List.mem_cons_of_mem _ he)
    have hd := h d (List.mem_cons_self ..)
    refine ⟨?_, fun l e => ?_⟩
    · rw [List.map_cons, List.any_cons, h1]
      show (PyData.eqv d .none || _) = ((allSome r).map _).isNone
      rw [eqv_non hd.th]
      cases allSome r <;> rfl
    · have e : (allSome r).map (d :: ·) = some l := e
      obtain ⟨l', e1, rfl⟩ := Option.map_eq_some_iff.mp e
      rw [List.map_cons, h2 l' e1]
      rfl
theorem opt_lay : ∀ (a : List (Option PyData)), (∀ d, some d ∈ a → WOk d) → PyData.canLayAll0 (a.map optD) = true ∧ PyData.depthAll (a.map optD) ≤ 20
  | [], _ => by simp [PyData.canLayAll0, PyData.depthAll]
  | none :: r, h => by
    obtain ⟨h1, h2⟩ := opt_lay r fun e he => h e (List.mem_cons_of_mem _ he)
    refine ⟨?_, ?_⟩
    · simp only [List.map_cons, optD, PyData.canLayAll0, PyData.canLay0, h1]
      rfl
    · simp only [List.map_cons, optD, PyData.depthAll, PyData.depth]
      omega
  | some d :: r, h => by
    obtain ⟨h1, h2⟩ := opt_lay r fun e he => h e (List.mem_cons_of_mem _ he)
    have hd := h d (List.mem_cons_self ..)
    have h3 := hd.dep
    refine ⟨?_, ?_⟩
    · simp only [List.map_cons, optD, PyData.canLayAll0, hd.lay, h1]
      rfl
    · simp only [List.map_cons, optD, PyData.depthAll]
      omega
theorem shaped_of {ds : List PyData} (h1 : PyData.canLayAll0 ds = true) (h2 : PyData.depthAll ds ≤ 20) : SeqAt.shaped (.list ds) = true := by
  show (PyData.canLay0 (.list ds) && decide (PyData.depth (.list ds) ≤ 64)) = true
  rw [Bool.and_eq_true]
  refine ⟨by simp only [PyData.canLay0]; exact h1, decide_eq_true ?_⟩
  simp only [PyData.depth]
  omega
theorem paired_ta {α β : Type} {R : α → β → Prop} : ∀ {as : List α} {bs : List β} {i : Nat} {b : β}, Paired R as bs → bs[i]? = some b → ∃ a, as[i]? = some a ∧ R a b
  | _, _, 0, b, .cons h _, e => ⟨_, rfl, by cases e; exact h⟩
  | _, _, i + 1, b, .cons _ r, e => by
    obtain ⟨a, e1, h1⟩ := paired_ta r (i := i) e
    exact ⟨a, e1, h1⟩
structure TxtN (mg : Str → Option Value) : Prop where
  isi : mg "isinstance" = none
  tuple : mg "tuple" = none
def spNd (K : PySem.W.Frag) : Sp := fun vs H Q _ => ∃ (a th : Addr) (n : Nd) (c : Str) (ws : List V) (ds : List PyData) (m : Int) (ks : List (Str × Int)), vs = [.ref a, .ref th] ∧ SqT K H a (ndV n) ∧ NdOk m ks n ∧ (ds.length : Int) = m ∧ SqT K H th (.str c :: ws) ∧ DpAll K H ws ds ∧ (∀ d ∈ ds, drawn d = true) ∧
  ∀ v H', Same H H' → Dp K H' v (optD (wantD n ds)) → Q v H'
theorem dps_get {K : PySem.W.Frag} {H : Hp} {vs : List V} {ds : List PyData} {j m : Int} (r : DpAll K H vs ds) (hl : (ds.length : Int) = m) (h0 : 0 ≤ j) (h1 : j < m) (c : V) : ∃ v d, atI (c :: vs) (j + 1) = some v ∧ ds[j.toNat]? = some d ∧ Dp K H v d := by
  obtain ⟨i, rfl⟩ := Int.eq_ofNat_of_zero_le h0
  have hi : i < ds.length := by omega
  obtain ⟨v, hv, hk⟩ := dps_at r (List.getElem?_eq_getElem hi)
  refine ⟨v, ds[i], ?_, by simpa using List.getElem?_eq_getElem hi, hk⟩
  have e : ((i : Int) + 1) = ((i + 1 : Nat) : Int) := by omega
  rw [e]
  exact atI_nat (by rw [List.getElem?_cons_succ, hv])
section
variable {P : Program} {w : World} {K : PySem.W.Frag} {mg : Str → Option Value} {base : Heap}
theorem scNd : FnScope ["need", "thing", "part"] ["need", "thing"] (defScope sNd) := ⟨rfl, rfl, rfl, by decide +kernel, rfl, by decide +kernel, by decide +kernel⟩
theorem ok_nd {f : Addr} {fd : FuncData} (F : Fun K "_needed_thing" "_needed_thing" sNd f fd) (T : TxtN mg) : FnOk P w K mg base CX0 1 f fd ["need", "thing"] (spNd K) := by
  refine F.ok scNd (fun vs H Q E h => ?_) (fun cdv A outer s H vs Q E hr h => ?_)
  · obtain ⟨_, _, _, _, _, _, _, _, rfl, _⟩ := h
    rfl
  · obtain ⟨a, th, n, c, ws, ds, m, ks, rfl, ha, hn, hm, ht, hvs, hp, k⟩ := h
    refine ⟨_, pss_cons (ps_if (pt_cmpR op_eq (pe_ix ix_tup (pv 0) pe_int (fun _ _ => rfl)) pe_str (nomark _)) (pss_one (ps_ret (pe_ix ix_tup (pv 1) (pe_op op_add (pe_ix ix_tup (pv 0) pe_int (fun _ _ => rfl)) pe_int) (fun _ _ => rfl)))) pss_nil)
      (pss_cons (ps_if (pt_cmpR op_eq (pe_ix ix_tup (pv 0) pe_int (fun _ _ => rfl)) pe_str (nomark _)) (pss_one (ps_ret (pe_tup (pa_cons (pe_ix ix_tup (pv 0) pe_int (fun _ _ => rfl)) (pa_cons (pe_ix ix_tup (pv 1) (pe_op op_add (pe_ix ix_tup (pv 0) pe_int (fun _ _ => rfl)) pe_int) (fun _ _ => rfl)) pa_nil))))) pss_nil)
      (pss_cons (ps_set (i := 2) scNd.nd rfl (.inl rfl) (pe_ix ix_tup (pv 1) (pe_op op_add (pe_ix ix_tup (pv 0) pe_int (fun _ _ => rfl)) pe_int) (fun _ _ => rfl)))
      (pss_one (ps_ret (pe_ifExp (PW.pt (pw_and (pt_val (pe_callB call_isi (by rfl) T.isi (by decide +kernel) (pa_cons (pv 2) (pa_cons (pe_bltn (v := .ty "tuple") rfl T.tuple (by decide +kernel) rfl) pa_nil))))
        (pw_and1 (pt_cmpR op_eq (pe_ix ix_tup (pv 2) pe_int (fun _ _ => rfl)) (pe_ix ix_tup (pv 0) pe_int (fun _ _ => rfl)) (nomark _))))) (pe_ix ix_tup (pv 2) pe_int (fun _ _ => rfl)) pe_non))))), ?_⟩
    cases n with
    | part j =>
      obtain ⟨j0, j1⟩ := hn
      obtain ⟨v, d, hv, hd, hk⟩ := dps_get hvs hm j0 j1 (.str c)
      refine ⟨_, rfl, a, _, _, _, rfl, rfl, ha, rfl, rfl, _, rfl, ite2 (fun _ => ?_) (fun z => absurd (by decide) z)⟩
      refine ⟨_, rfl, _, rfl, a, _, _, _, rfl, rfl, ha, rfl, _, _, rfl, rfl, th, _, _, _, rfl, rfl, ht, hv, k _ _ same_rfl ?_⟩
      show Dp K _ v (optD (ds[j.toNat]?))
      rw [hd]
      exact hk
    | around cc j =>
      obtain ⟨c1, j0, j1⟩ := hn
      obtain ⟨v, d, hv, hd, hk⟩ := dps_get hvs hm j0 j1 (.str c)
      refine ⟨_, rfl, a, _, _, _, rfl, rfl, ha, rfl, rfl, _, rfl, ite2 (fun z => absurd z (by decide)) (fun _ => ?_)⟩
      refine ⟨_, rfl, a, _, _, _, rfl, rfl, ha, rfl, rfl, _, rfl, ite2 (fun _ => ?_) (fun z => absurd (by decide) z)⟩
      refine ⟨_, rfl, a, _, _, _, rfl, rfl, ha, rfl, _, rfl, _, rfl, a, _, _, _, rfl, rfl, ha, rfl, _, _, rfl, rfl, th, _, _, _, rfl, rfl, ht, hv, (by show 2 ≤ sizeLine; rw [sizeLine_eq]; decide), fun q hq => k _ _ (same_new same_rfl hq) ?_⟩
      show Dp K _ (.ref q) (optD ((ds[j.toNat]?).map fun d => .tuple [.str cc, d]))
      rw [hd]
      exact .tup (SqT.of upd_same) (.cons (.str _) (.cons (dp_same (same_new same_rfl hq) d v hk) .nil))
    | inside j cc =>
      obtain ⟨c1, j0, j1⟩ := hn
      obtain ⟨v, d, hv, hd, hk⟩ := dps_get hvs hm j0 j1 (.str c)
      refine ⟨_, rfl, a, _, _, _, rfl, rfl, ha, rfl, rfl, _, rfl, ite2 (fun z => absurd z (by decide)) (fun _ => ?_)⟩
      refine ⟨_, rfl, a, _, _, _, rfl, rfl, ha, rfl, rfl, _, rfl, ite2 (fun z => absurd z (by decide)) (fun _ => ?_)⟩
      refine ⟨_, rfl, _, rfl, a, _, _, _, rfl, rfl, ha, rfl, _, _, rfl, rfl, th, _, _, _, rfl, rfl, ht, hv, ?_⟩
      have hpd := drawn_th (hp d (List.mem_of_getElem? hd))
      rcases th_cases hpd hk with ⟨c', rfl, rfl⟩ | ⟨b, c', zs, qs, rfl, rfl, hb2, hzs, qne, tqs⟩
      · refine ⟨_, rfl, _, _, _, _, false, rfl, .ty "tuple", .base (.str _), kit_ty (by decide +kernel), _, rfl, ite2 (fun z => absurd z (by decide)) (fun _ => ?_)⟩
        refine ite2 (fun z => absurd z (by decide)) (fun _ => k _ _ same_rfl ?_)
        show Dp K _ .non (optD ((ds[j.toNat]?).bind _))
        rw [hd]
        exact .non
      · cases qs with
        | nil => exact absurd rfl qne
        | cons d1 dr =>
        cases hzs with
        | cons h2 r2 =>
          refine ⟨_, rfl, _, _, _, _, true, rfl, .ty "tuple", sqT_ty' hb2, kit_ty rfl, _, rfl, ite2 (fun _ => ?_) (fun z => absurd rfl z)⟩
          refine ⟨_, rfl, _, _, _, .str c', rfl, rfl, hb2, at0, _, rfl, a, _, _, .str cc, rfl, rfl, ha, rfl, rfl, _, rfl, ite2 (fun hb => ?_) (fun hb => ?_)⟩
          · have hcc : c' = cc := by
              have z := of_decide_eq_true hb
              injection z
            refine ⟨_, rfl, _, _, _, _, rfl, rfl, hb2, atI_nat (j := 1) rfl, k _ _ same_rfl ?_⟩
            show Dp K _ _ (optD ((ds[j.toNat]?).bind _))
            rw [hd]
            show Dp K _ _ (optD (if c' = cc then some d1 else none))
            rw [if_pos hcc]
            exact h2
          · have hcc : ¬ c' = cc := fun z => hb (by rw [z]; exact decide_eq_true rfl)
            refine k _ _ same_rfl ?_
            show Dp K _ _ (optD ((ds[j.toNat]?).bind _))
            rw [hd]
            show Dp K _ _ (optD (if c' = cc then some d1 else none))
            rw [if_neg hcc]
            exact .non
end
end K12

set_option Elab.async false
set_option linter.all false
set_option maxRecDepth 100000
set_option maxHeartbeats 4000000
/-! Book.needed, of things anywhere; the standard book. -/
namespace K12
open PySem PySem.Spec PyProof.Rows L2 Mine TL StX SkE
/-- the constants of the standard book as the top has left them -/
structure Std (K : PySem.W.Frag) (kk oo : Addr) (ps as : List Addr) : Prop where
  ks : ∀ H, KindsAt K H kk ps stdKs
  os : ∀ H, OpnsAt K H oo as stdOs
structure TxtS (K : PySem.W.Frag) (mg : Str → Option Value) (C kk oo : Addr) : Prop where
  gB : mg "Book" = some (.ref C)
  gK : ∃ u, mg "STANDARD_KINDS" = some u ∧ RelV (.ref kk) u
  gO : ∃ u, mg "STANDARD_OPENINGS" = some u ∧ RelV (.ref oo) u
def spStd (C kk oo : Addr) : Sp := fun vs H Q _ => vs = [] ∧ ∀ x dx H', Same H H' → H' x = some (.ins C dx (fsB kk oo)) → Q (.ref x) H'
section
variable {P : Program} {w : World} {K : PySem.W.Frag} {mg : Str → Option Value} {base : Heap}
abbrev sStd : Stmt := top 34
theorem scStd : FnScope [] [] (defScope sStd) := ⟨rfl, rfl, rfl, by decide +kernel, rfl, by decide +kernel, by decide +kernel⟩
/-- a book made -/
theorem made {C kk oo : Addr} {ps as : List Addr} {ks : List (Str × Int)} {os : List Opn} {H : Hp} {G : V → Hp → Prop} {E : XK} (hk : KindsAt K H kk ps ks) (kok : KsOk ks) (ho : OpnsAt K H oo as os) (ook : OsOk ks os) (k : ∀ x dx H', Same H H' → H x = none → H' x = some (.ins C dx (fsB kk oo)) → G (.ref x) H') :
    ∀ x dx, H x = none → H dx = none → dx ≠ x → spInit K C (.ref x :: ([.ref kk, .ref oo] ++ [])) (upd (upd H dx (.own x)) x (.ins C dx [])) (fun v H2 => v = .non ∧ G (.ref x) H2) E := by
  intro x dx hx hdx ne
  have s1 : Same H (upd (upd H dx (.own x)) x (.ins C dx [])) := fun b o e => (upd_ne (ne_of_none e hx)).trans ((upd_ne (ne_of_none e hdx)).trans e)
  exact ⟨x, dx, kk, oo, ps, as, ks, os, rfl, upd_same, hk.same s1, kok, ho.same s1, ook, fun H' keep hx' => ⟨rfl, k x dx H' (fun b o e => keep b o (ne_of_none e hx) (s1 _ _ e)) hx hx'⟩⟩
theorem ok_std {f C fI kk oo : Addr} {ps as : List Addr} {fd dI : FuncData} (F : Fun K "standard_book" "standard_book" sStd f fd) (T : TxtS K mg C kk oo) (S : Std K kk oo ps as) (M : Mk K C fI) (GI : FnOk P w K mg base CX0 6 fI dI ["self", "kinds", "openings"] (spInit K C)) (bI : Binds K dI ["self", "kinds", "openings"] []) :
    FnOk P w K mg base CX0 8 f fd [] (spStd C kk oo) := by
  refine F.ok scStd (fun vs H Q E h => ?_) (fun cdv A outer s H vs Q E hr h => ?_)
  · obtain ⟨rfl, _⟩ := h
    rfl
  · obtain ⟨rfl, k⟩ := h
    refine ⟨_, pss_one (ps_ret (pe_make M GI hr rfl T.gB bI .nil pass0 (pa_cons (C8.pe_gc (v := .ref kk) rfl T.gK) (pa_cons (C8.pe_gc (v := .ref oo) rfl T.gO) pa_nil)))), ?_⟩
    exact made (S.ks H) std_ks (S.os H) std_os fun x dx H' s' _ hx' => k x dx H' s' hx'
end

def spNeeded (K : PySem.W.Frag) (C : Addr) : Sp := fun vs H Q _ => ∃ (x th : Addr) (os : List Opn) (o : Opn) (i0 : Nat) (c : Str) (ws : List V) (ds : List PyData) (m : Int) (ks : List (Str × Int)), vs = [.ref x, .str o.w, .ref th] ∧ BkAt K C H x ks os ∧
  os[i0]? = some o ∧ (os.map (·.w)).Nodup ∧ (∀ n ∈ o.nn, NdOk m ks n) ∧ o.nn.length ≤ 2 ∧ (ds.length : Int) = m ∧ SqT K H th (.str c :: ws) ∧ DpAll K H ws ds ∧ (∀ d ∈ ds, drawn d = true ∧ PyData.depth d ≤ 10) ∧ os.length ≤ 20 ∧ ∀ v H', Same H H' → Dp K H' v (needD o.nn ds) → Q v H'
structure TxtM (K : PySem.W.Frag) (mg : Str → Option Value) (C fN : Addr) : Prop extends TxtN mg where
  cl : Cls K C
  nK : NoAttr K C "kinds"
  nO : NoAttr K C "openings"
  gN : mg "_needed_thing" = some (.ref fN)
  kN : PySem.W.keepIn K (.ref fN) = true
abbrev nNeeded : List Str := ["self", "opening", "thing", "needs", "found", "row", "need"]
section
variable {P : Program} {w : World} {K : PySem.W.Frag} {mg : Str → Option Value} {base : Heap}
theorem scNeeded : FnScope nNeeded ["self", "opening", "thing"] (defScope sNeeded) := ⟨rfl, rfl, rfl, by decide +kernel, rfl, by decide +kernel, by decide +kernel⟩
theorem ok_needed {f C fN : Addr} {fd dN : FuncData} (F : Fun K "needed" "Book.needed" sNeeded f fd) (T : TxtM K mg C fN) (G : FnOk P w K mg base CX0 1 fN dN ["need", "thing"] (spNd K)) (bG : Binds K dN ["need", "thing"] []) :
    FnOk P w K mg base CX0 2 f fd ["self", "opening", "thing"] (spNeeded K C) := by
  refine F.ok scNeeded (fun vs H Q E h => ?_) (fun cdv A outer s H vs Q E hr h => ?_)
  · obtain ⟨_, _, _, _, _, _, _, _, _, _, rfl, _⟩ := h
    rfl
  · obtain ⟨x, th, os, o, i0, c, ws, ds, m, ks, rfl, B, ho, nd, hn, nl, hm, hT, hd, hp, ol, k⟩ := h
    obtain ⟨dx, kk, oo, ps0, as, hx, hk0, hO⟩ := id B.ex
    have kl : ∀ p ∈ ks, PyData.strOk p.1 = true := fun p hp => ww_ok _ (B.kok.ww p hp)
    have h65 : (A.deeper (envOfC "Book.needed" (defScope sNeeded) s.heap.objs.size f cdv)).units + 65 < cLine := by
      have := hr.un
      omega
    refine ⟨_, pss_cons (ps_set (i := 3) scNeeded.nd rfl (.inl rfl) (pe_ix ix_list (pe_lc (own := [("row", 5)]) (g := gName 5) rfl scNeeded.nd (pi_tup (pe_fld (pv 0) rfl))
        (blkOk_by (own := [("row", 5)]) (N := nNeeded) (sc := defScope sNeeded) (by decide +kernel))
        (fun _ _ _ _ _ => pg_name (i := 5) scNeeded.nd rfl (Or.inl rfl)) (fun _ _ _ _ _ => pts_one (pt_cmpR op_eq (pe_ix (show IxR _ (rIxT K) from ix_tup) (pv 5) pe_int (fun _ _ => rfl)) (pv 1) (nomark _))) (fun _ _ _ _ _ => pe_ix (show IxR _ (rIxT K) from ix_tup) (pv 5) pe_int (fun _ _ => rfl))) pe_int (fun _ _ => rfl)))
      (pss_cons (ps_setLc (i := 4) (own := [("need", 6)]) (g := gName 6) (tt := tYes) rfl scNeeded.nd rfl rfl (sw_true rfl rfl rfl (by decide +kernel)) (pi_tup (pv 3))
        (blkOk_by (own := [("need", 6)]) (N := nNeeded) (sc := defScope sNeeded) (by decide +kernel))
        (fun _ _ _ _ _ => pg_name (i := 6) scNeeded.nd rfl (Or.inl rfl)) (fun _ _ _ _ _ => pts_nil) (fun _ _ _ _ _ => pe_call G hr rfl T.gN T.kN bG .nil pass0 (pa_cons (pv 6) (pa_cons (pv 2) pa_nil))))
      (pss_one (ps_ret (pe_ifExp (pt_cmpR (op_inD h65) pe_non (pv 4) (by with_unfolding_all rfl)) pe_non (pe_callTy call_tuple_of (by rfl) T.tuple (by decide +kernel) (pa_cons (pv 4) pa_nil)))))), ?_⟩
    obtain ⟨a0, ha0, b, bs, hq, hb, hpp⟩ := paired_ta hO.each ho
    have hol := hO.each.length
    refine ⟨_, rfl, x, C, dx, _, _, rfl, hx, T.cl, T.nO, rfl, oo, rfl, ⟨_, hO.at_⟩, fun D hD => ?_⟩
    refine lc_tup (K := K) (a := oo) (xs := as.map V.ref) (fun i H' => H' = upd H D (.lst (if i0 < i then [.ref b] else []))) (by rw [if_neg (Nat.not_lt_zero _)]) (fun i H' _ h => by rw [h]; exact sqT_same (same_new same_rfl hD) hO.at_) ?_ ?_
    · rintro i y H1 hi rfl
      rw [List.getElem?_map] at hi
      obtain ⟨a, ha, rfl⟩ := Option.map_eq_some_iff.mp hi
      obtain ⟨o', ho', b', bs', hq', _⟩ := paired_at hO.each ha
      have il : i < os.length := (List.getElem?_eq_some_iff.mp ho').1
      have sD : Same H (upd H D (.lst (if i0 < i then [.ref b] else []))) := same_new same_rfl hD
      by_cases e : i = i0
      · subst e
        rw [ha0] at ha
        cases ha
        refine ⟨rfl, _, rfl, _, _, _, .str o.w, rfl, rfl, sqT_same sD hq, rfl, _, rfl, rfl, _, rfl, ite2 (fun _ => ?_) (fun z => absurd (decide_eq_true rfl) z)⟩
        refine ⟨_, rfl, _, _, _, .ref b, rfl, rfl, sqT_same sD hq, rfl, _, upd_same, ?_, ?_⟩
        · rw [if_neg (Nat.lt_irrefl _), sizeLine_eq]
          decide
        · rw [upd_upd, if_neg (Nat.lt_irrefl _), if_pos (Nat.lt_succ_self _)]
          rfl
      · have hw : o'.w ≠ o.w := fun z => by
          have l0 : i0 < (os.map (·.w)).length := by rw [List.length_map]; exact (List.getElem?_eq_some_iff.mp ho).1
          have x1 : (os.map (·.w))[i]? = some o.w := by rw [List.getElem?_map, ho', ← z]; rfl
          have x2 : (os.map (·.w))[i0]? = some o.w := by rw [List.getElem?_map, ho]; rfl
          exact e ((List.getElem?_inj (by rw [List.length_map]; exact il) nd).mp (x1.trans x2.symm))
        refine ⟨rfl, _, rfl, a, _, _, _, rfl, rfl, sqT_same sD hq', rfl, _, rfl, rfl, _, rfl, ite2 (fun z => ?_) (fun _ => ?_)⟩
        · have z := of_decide_eq_true z
          injection z with z
          exact absurd z hw
        · by_cases e1 : i0 < i
          · rw [if_pos e1, if_pos (by omega)]
          · rw [if_neg e1, if_neg (by omega)]
    · rintro H1 rfl
      have i0l : i0 < (as.map V.ref).length := by
        rw [List.length_map, hol]
        exact (List.getElem?_eq_some_iff.mp ho).1
      rw [if_pos i0l]
      have s1 : Same H (upd H D (.lst [.ref b])) := same_new same_rfl hD
      refine ⟨D, _, _, _, rfl, rfl, SqL.of upd_same, rfl, ?_⟩
      generalize upd H D (.lst [.ref b]) = H1 at s1
      have hb1 := sqT_same s1 hb
      have hT1 := kt_same s1 _ _ hT
      have hd1 := dps_same s1 _ _ hd
      have hnl := hpp.length
      refine ⟨_, rfl, b, rfl, ⟨_, hb1⟩, fun E1 hE => ?_⟩
      have sE : Same H1 (upd H1 E1 (.lst [])) := same_new same_rfl hE
      have wok : ∀ d, some d ∈ (o.nn.map fun n => wantD n ds) → WOk d := fun d hd => by
        obtain ⟨n, hn1, hn2⟩ := List.mem_map.mp hd
        exact want_ok hp (hn n hn1) kl hn2
      refine lc_tup (K := K) (a := b) (xs := bs.map V.ref) (fun i H' => ∃ vs' : List V, H' E1 = some (.lst vs') ∧ vs'.length = i ∧ DpAll K H' vs' (((o.nn.take i).map fun n => wantD n ds).map optD) ∧ Same H1 H')
        ⟨[], upd_same, rfl, .nil, sE⟩ (fun i H' _ ⟨_, _, _, _, z⟩ => sqT_same z hb1) ?_ ?_
      · rintro i y H2 hi ⟨vs', e2, vl, hv, s2⟩
        rw [List.getElem?_map] at hi
        obtain ⟨a, ha, rfl⟩ := Option.map_eq_some_iff.mp hi
        obtain ⟨n, hnn, hqn⟩ := paired_at hpp ha
        have il : i < bs.length := (List.getElem?_eq_some_iff.mp ha).1
        refine ⟨rfl, ?_⟩
        unfold tYes
        dsimp only
        rw [if_pos rfl]
        refine ⟨_, rfl, _, rfl, a, th, n, c, ws, ds, m, ks, rfl, sqT_same (same_tr s1 s2) hqn, hn n (List.mem_of_getElem? hnn), hm, kt_same s2 _ _ hT1, dps_same s2 _ _ hd1, (fun d hd => (hp d hd).1), fun v H3 s3 hv3 => ⟨vs', s3 _ _ e2, ?_, vs' ++ [v], upd_same, by rw [List.length_append, vl]; rfl, ?_, ?_⟩⟩
        · rw [sizeLine_eq]
          omega
        · have kt : KT K H3 (upd H3 E1 (.lst (vs' ++ [v]))) := kt_lst (s3 _ _ e2)
          rw [List.take_add_one, hnn, List.map_append, List.map_append]
          refine dps_app (opts_kt kt (fun d hd => (wok d (by
            obtain ⟨n', hn', e⟩ := List.mem_map.mp hd
            rw [← e]
            exact List.mem_map_of_mem (List.mem_of_mem_take hn'))).th) (dps_same s3 _ _ hv)) (.cons (opt_kt kt (fun d e => (wok d (by rw [← e]; exact List.mem_map_of_mem (List.mem_of_getElem? hnn))).th) hv3) .nil)
        · exact fun b1 o1 e => (upd_ne (ne_of_none e hE)).trans (s3 _ _ (s2 _ _ e))
      · rintro H2 ⟨vs', e2, vl, hv2, s2⟩
        have hlen : (bs.map V.ref).length = o.nn.length := by rw [List.length_map]; exact hnl
        rw [hlen, List.take_of_length_le (Nat.le_refl _)] at hv2
        obtain ⟨any1, any2⟩ := any_non _ wok
        obtain ⟨lay1, lay2⟩ := opt_lay _ wok
        have k12 := same_tr s1 s2
        refine ⟨_, rfl, .none, _, .non, .lst (SqL.of e2) hv2, by decide +kernel, shaped_of lay1 lay2, _, rfl, ite2 (fun hb2 => ?_) (fun hb2 => ?_)⟩
        · rw [any1] at hb2
          have hnone : allSome (o.nn.map fun n => wantD n ds) = none := Option.isNone_iff_eq_none.mp hb2
          refine k _ _ k12 ?_
          unfold needD
          rw [hnone]
          exact .non
        · rw [any1] at hb2
          cases hl : allSome (o.nn.map fun n => wantD n ds) with
          | none => exact absurd (by rw [hl]; rfl) hb2
          | some l =>
            refine ⟨_, rfl, E1, vs', rfl, .inl ⟨SqL.of e2, fun q hq => k _ _ (same_tr k12 (same_new same_rfl hq)) ?_⟩⟩
            unfold needD
            rw [hl]
            rw [any2 l hl] at hv2
            exact .tup (SqT.of upd_same) (dps_same (same_new same_rfl hq) _ _ hv2)
end
end K12

set_option Elab.async false
set_option linter.all false
set_option maxRecDepth 100000
set_option maxHeartbeats 4000000
/-! Book.read_thing; what is no thing of a book. -/
namespace K12
open PySem PySem.Spec PyProof.Rows L2 Mine TL StX SkE
abbrev sRT : Stmt := inClass (top 33) 5
def spRT (K : PySem.W.Frag) (C : Addr) : Sp := fun vs H Q _ => ∃ (x : Addr) (ks : List (Str × Int)) (os : List Opn) (d : PyData), vs = [.ref x, .str (txt d)] ∧ BkAt K C H x ks os ∧ OkT ks d ∧ sz d ≤ 1000 ∧ PyData.depth d ≤ 60 ∧ ∀ (v : V) (H' : Hp), Same H H' → Dp K H' v d → Q v H'
structure TxtRT (K : PySem.W.Frag) (mg : Str → Option Value) (C fT : Addr) : Prop where
  cl : Cls K C
  nK : NoAttr K C "kinds"
  isi : mg "isinstance" = none
  str : mg "str" = none
  dict : mg "dict" = none
  gT : mg "thing_with_text" = some (.ref fT)
  kT : PySem.W.keepIn K (.ref fT) = true
def spHasN (K : PySem.W.Frag) : Sp := fun vs H Q _ => ∃ (cd a : Addr) (c : Str) (m : Int) (ws : List V) (ks : List (Str × Int)), vs = [.ref cd, .ref a] ∧ Cnt H cd ks ∧ SqT K H a (.str c :: ws) ∧ (c, m) ∈ ks ∧ (ws.length : Int) ≠ m ∧ c ∈ W8 ∧ ∀ H', Same H H' → Q (.bl false) H'
/-- what is no thing at first sight -/
def Bad (K : PySem.W.Frag) (H : Hp) (v : V) (ks : List (Str × Int)) : Prop := (∃ (a : Addr) (c : Str) (m : Int) (ws : List V), v = .ref a ∧ SqT K H a (.str c :: ws) ∧ (c, m) ∈ ks ∧ (ws.length : Int) ≠ m ∧ c ∈ W8) ∨
  (∃ (a : Addr) (xs : List V), v = .ref a ∧ H a = some (.lst xs)) ∨ ∃ x, v = .str x ∧ x.length ≤ 100 ∧ isW x = false ∧ isN x = false
def spIsThN (K : PySem.W.Frag) (C : Addr) : Sp := fun vs H Q _ => ∃ (x : Addr) (v : V) (ks : List (Str × Int)) (os : List Opn), vs = [.ref x, v] ∧ BkAt K C H x ks os ∧ Bad K H v ks ∧ ∀ H', Same H H' → Q (.bl false) H'
section
variable {P : Program} {w : World} {K : PySem.W.Frag} {mg : Str → Option Value} {base : Heap}
theorem scRT : FnScope ["self", "text", "thing"] ["self", "text"] (defScope sRT) := ⟨rfl, rfl, rfl, by decide +kernel, rfl, by decide +kernel, by decide +kernel⟩
theorem non_dp2 {K : PySem.W.Frag} {H : Hp} {d : PyData} (h : thing d = true) (v : Dp K H .non d) : False := by
  rcases thing_cases h with ⟨c, rfl⟩ | ⟨c, ps, rfl, _⟩ <;> cases v
theorem ok_rt {f C fT : Addr} {fd dT : FuncData} (F : Fun K "read_thing" "Book.read_thing" sRT f fd) (T : TxtRT K mg C fT) (GT : FnOk P w K mg base CX0 4 fT dT ["counts", "text"] (spTT K)) (bT : Binds K dT ["counts", "text"] []) : FnOk P w K mg base CX0 5 f fd ["self", "text"] (spRT K C) := by
  refine F.ok scRT (fun vs H Q E h => ?_) (fun cdv A outer s H vs Q E hr h => ?_)
  · obtain ⟨_, _, _, _, rfl, _⟩ := h
    rfl
  · obtain ⟨x, ks, os, d, rfl, B, ok, sz1, dep, k⟩ := h
    refine ⟨_, pss_cons (ps_set (i := 2) scRT.nd rfl (.inl rfl) (pe_ifExp (pt_val (pe_callB call_isi (by rfl) T.isi (by decide +kernel) (pa_cons (pv 1) (pa_cons (pe_bltn (v := .ty "str") rfl T.str (by decide +kernel) rfl) pa_nil))))
        (pe_call GT hr rfl T.gT T.kT bT .nil pass0 (pa_cons (pe_callTy (call_dictPT rfl) (by rfl) T.dict (by decide +kernel) (pa_cons (pe_fld (pv 0) rfl) pa_nil)) (pa_cons (pv 1) pa_nil))) pe_non))
      (pss_cons (ps_if (pt_cmpR op_isN (pv 2) pe_non (nomark _)) (pss_one ps_dead) pss_nil)
      (pss_one (ps_ret (pv 2)))), ?_⟩
    obtain ⟨dx, kk, oo, ps0, as0, hx, hk, hO⟩ := id B.ex
    refine ⟨_, rfl, _, _, _, _, true, rfl, .ty "str", .base (.str _), kit_ty rfl, _, rfl, ite2 (fun _ => ?_) (fun z => absurd rfl z)⟩
    refine ⟨_, rfl, x, C, dx, _, _, rfl, hx, T.cl, T.nK, rfl, kk, ps0, _, rfl, hk.at_, paired_kv hk.each, fun cd hcd => ?_⟩
    have cn : Cnt (upd H cd (.dK (mergeK [] (ks.map kvOf)))) cd ks := cnt_new B.kok.nd
    have s1 : Same H (upd H cd (.dK (mergeK [] (ks.map kvOf)))) := same_new same_rfl hcd
    generalize upd H cd (.dK (mergeK [] (ks.map kvOf))) = H1 at cn s1
    refine ⟨_, rfl, cd, d, ks, rfl, cn, (fun p hp => (B.kok.num p hp).2), ok, sz1, dep, fun v H2 s2 dv => ?_⟩
    have vn : v ≠ .non := fun z => by rw [z] at dv; exact non_dp2 (drawn_th ok.dr) dv
    refine ⟨_, rfl, rfl, _, rfl, ite2 (fun z => absurd (of_decide_eq_true z) vn) (fun _ => ?_)⟩
    exact ⟨_, rfl, k v H2 (same_tr s1 s2) dv⟩
theorem ok_hasN {f fW : Addr} {fd dW : FuncData} (F : Fun K "_has_all_parts" "_has_all_parts" sHas f fd) (T : TxtHp K mg fW) (GW : FnOk P w K mg base CX0 1 fW dW ["thing"] (spIs K isW)) (bW : Binds K dW ["thing"] []) : FnOk P w K mg base CX0 2 f fd ["counts", "thing"] (spHasN K) := by
  refine F.ok scHas (fun vs H Q E h => ?_) (fun cdv A outer s H vs Q E hr h => ?_)
  · obtain ⟨_, _, _, _, _, _, rfl, _⟩ := h
    rfl
  · obtain ⟨cd, a, c, m, ws, ks, rfl, hc, ha, hm, hne, hw, k⟩ := h
    have hu := hu_of hr
    refine ⟨_, pss_cons (ps_if (PW.pt (pw_or (pt_cmpR op_eq (pe_callB call_len_seq (by rfl) T.len PySem.boot_len (pa_cons (pv 1) pa_nil)) pe_int (nomark _))
        (pw_or (pt_not (pt_val (pe_call GW hr rfl T.gW T.kW bW .nil pass0 (pa_cons (pe_ix ix_tup (pv 1) pe_int (fun _ _ => rfl)) pa_nil)))) (pw_or1 (pt_cmp (pc_dnotin hu (pe_ix ix_tup (pv 1) pe_int (fun _ _ => rfl)) (pv 0))))))) (pss_one (ps_ret pe_bl)) pss_nil)
      (pss_one (ps_ret (pe_cmpR op_eq (pe_callB call_len_seq (by rfl) T.len PySem.boot_len (pa_cons (pv 1) pa_nil)) (pe_op op_add (pe_dget hu (pv 0) (pe_ix ix_tup (pv 1) pe_int (fun _ _ => rfl)) (fun _ _ => rfl)) pe_int) (nomark _)))), ?_⟩
    have w8 := w8_len c hw
    refine ⟨_, rfl, a, _, rfl, .inr ha, rfl, _, rfl, ite2 (fun z => absurd z (by simp; omega)) (fun _ => ?_)⟩
    refine ⟨_, rfl, a, _, _, _, rfl, rfl, ha, at0, _, rfl, .inl ⟨c, rfl, by rw [sizeLine_eq]; omega, fun H1 s1 => ⟨_, rfl, ite2 (fun z => absurd z (by rw [w8_isW c hw]; decide)) (fun _ => ?_)⟩⟩⟩
    obtain ⟨kvs, e, yes, no⟩ := hc.same s1
    have ha1 := kt_same (K := K) s1 _ _ ha
    refine ⟨_, rfl, a, _, _, _, rfl, rfl, ha1, at0, _, rfl, cd, some (.int m), rfl, .inl ⟨kvs, .inr c, .inl e, rfl, (yes _ hm).symm⟩, _, rfl, ite2 (fun z => absurd z (by simp)) (fun _ => ?_)⟩
    refine ⟨_, rfl, a, _, rfl, .inr ha1, _, rfl, _, rfl, a, _, _, _, rfl, rfl, ha1, at0, cd, _, rfl, .inl ⟨kvs, .inr c, .inl e, rfl, (yes _ hm).symm⟩, _, _, rfl, rfl, rfl, ?_⟩
    have e : decide (V.int (((V.str c :: ws).length : Nat) : Int) = V.int (m + 1)) = false := decide_eq_false fun z => by
      injection z with z
      rw [List.length_cons] at z
      exact hne (by omega)
    rw [e]
    exact k H1 s1
theorem ok_isThN {f C fH fW fN : Addr} {fd dH dW dN : FuncData} (F : Fun K "is_thing" "Book.is_thing" sIsTh f fd) (T : TxtIT K mg C fH fW fN) (GH : FnOk P w K mg base CX0 2 fH dH ["counts", "thing"] (spHasN K)) (bH : Binds K dH ["counts", "thing"] [])
    (GW : FnOk P w K mg base CX0 1 fW dW ["thing"] (spIs K isW)) (bW : Binds K dW ["thing"] []) (GN : FnOk P w K mg base CX0 1 fN dN ["thing"] (spIs K isN)) (bN : Binds K dN ["thing"] []) : FnOk P w K mg base CX0 3 f fd ["self", "thing"] (spIsThN K C) := by
  refine F.ok scIsTh (fun vs H Q E h => ?_) (fun cdv A outer s H vs Q E hr h => ?_)
  · obtain ⟨_, _, _, _, rfl, _⟩ := h
    rfl
  · obtain ⟨x, v, ks, os, rfl, hb, bad, k⟩ := h
    have hr1 : Room 1 _ := hr.mono (by decide)
    refine ⟨_, pss_cons (ps_set (i := 2) scIsTh.nd rfl (.inl rfl) (pe_callTy (call_dictPT rfl) (by rfl) T.dict (by decide +kernel) (pa_cons (pe_fld (pv 0) rfl) pa_nil)))
      (pss_cons (ps_set (i := 3) scIsTh.nd rfl (.inl rfl) (pe_lst (pa_cons (pv 1) pa_nil)))
      (pss_cons (ps_while PassesOwn.never (pt_truth (pv 3) (fun _ => rfl))
        (pss_cons (ps_set (i := 4) scIsTh.nd rfl (.inl rfl) (pe_bm0 PySem.F.plainAttrs_list PySem.F.slot_list_pop PySem.F.type_list_pop mt_pop (pv 3)))
        (pss_one (ps_if (pt_val (pe_callB call_isi (by rfl) T.isi (by decide +kernel) (pa_cons (pv 4) (pa_cons (pe_bltn (v := .ty "tuple") rfl T.tuple (by decide +kernel) rfl) pa_nil))))
          (pss_cons (ps_if (pt_not (pt_val (pe_call GH hr rfl T.gH T.kH bH .nil pass0 (pa_cons (pv 2) (pa_cons (pv 4) pa_nil))))) (pss_one (ps_ret pe_bl)) pss_nil)
          (pss_one ps_dead))
          (pss_one (ps_if (PW.pt (pw_and (pt_not (pt_val (pe_call GW hr1 rfl T.gW T.kW bW .nil pass0 (pa_cons (pv 4) pa_nil)))) (pw_and1 (pt_not (pt_val (pe_call GN hr1 rfl T.gN T.kN bN .nil pass0 (pa_cons (pv 4) pa_nil))))))) (pss_one (ps_ret pe_bl)) pss_nil))))))
      (pss_one (ps_ret pe_bl)))), ?_⟩
    have line : sizeLine = 16777216 := sizeLine_eq
    obtain ⟨dx, kk, oo, ps0, as0, hx, hk, hO⟩ := hb.ex
    refine ⟨_, rfl, x, C, dx, _, _, rfl, hx, T.cl, T.nK, rfl, kk, ps0, _, rfl, hk.at_, paired_kv hk.each, fun cd hcd => ?_⟩
    have cn : Cnt (upd H cd (.dK (mergeK [] (ks.map kvOf)))) cd ks := cnt_new hb.kok.nd
    have s1 : Same H (upd H cd (.dK (mergeK [] (ks.map kvOf)))) := same_new same_rfl hcd
    show Ends.nx _ _ (upd H cd (.dK (mergeK [] (ks.map kvOf))))
    generalize upd H cd (.dK (mergeK [] (ks.map kvOf))) = H1 at cn s1
    refine ⟨_, rfl, (by show 1 ≤ sizeLine; omega), fun p hp => ?_⟩
    have s2 : Same H1 (upd H1 p (.lst [v])) := same_new same_rfl hp
    have np : H p = none := none_same s1 hp
    have ep : upd H1 p (.lst [v]) p = some (.lst [v]) := upd_same
    show Ends.nx _ _ (upd H1 p (.lst [v]))
    generalize upd H1 p (.lst [v]) = H2 at s2 ep
    refine ⟨fun m σ H' => σ = [some (.ref x), some v, some (.ref cd), some (.ref p), none] ∧ H' = H2, ⟨0, rfl, rfl⟩, ?_⟩
    rintro m σ H' ⟨rfl, rfl⟩
    refine ⟨_, rfl, true, .inl ⟨[v], SqL.of ep, rfl⟩, ?_⟩
    refine ite2 (fun _ => ?_) (fun z => absurd rfl z)
    refine ⟨fun _ _ => False, fun _ _ z => z.elim, ?_⟩
    refine ⟨_, rfl, .inl ⟨rfl, _, SqL.of ep⟩, p, [v], v, rfl, rfl, ep, rfl, ?_⟩
    have ep2 : upd H' p (.lst []) p = some (.lst []) := upd_same
    have s02 := same_tr s1 s2
    have off : ∀ b o, H b = some o → upd H' p (.lst []) b = some o := fun b o e => (upd_ne (ne_of_none e np)).trans (s02 _ _ e)
    have s3 : Same H (upd H' p (.lst [])) := off
    have cp : cd ≠ p := fun z => by
      obtain ⟨kvs, e, _⟩ := cn.same s2
      rw [z, ep] at e
      cases e
    have cn3 : Cnt (upd H' p (.lst [])) cd ks := let ⟨kvs, e, q⟩ := cn.same s2; ⟨kvs, (upd_ne cp).trans e, q⟩
    show Ends.nx _ _ (upd H' p (.lst []))
    generalize upd H' p (.lst []) = G at s3 cn3
    rcases bad with ⟨a, c, m, ws, rfl, ha, hm, hne, hw⟩ | ⟨a, xs, rfl, ha⟩ | ⟨y, rfl, yl, yw, yn⟩
    · refine ⟨_, rfl, _, _, _, _, true, rfl, .ty "tuple", sqT_ty' (kt_same s3 _ _ ha), kit_ty rfl, _, rfl, ite2 (fun _ => ?_) (fun z => absurd rfl z)⟩
      exact ⟨_, rfl, _, rfl, cd, a, c, m, ws, ks, rfl, cn3, kt_same s3 _ _ ha, hm, hne, hw, fun G1 g1 => ⟨_, rfl, ite2 (fun _ => k _ (same_tr s3 g1)) (fun z => absurd rfl z)⟩⟩
    · refine ⟨_, rfl, _, _, _, _, false, rfl, .ty "tuple", .base (.lst (s3 _ _ ha)), kit_ty (by decide +kernel), _, rfl, ite2 (fun z => absurd z (by decide)) (fun _ => ?_)⟩
      refine ⟨_, rfl, _, rfl, .inr ⟨⟨_, .base (.lst (s3 _ _ ha)), kit_ty (by decide +kernel)⟩, fun G1 g1 => ⟨_, rfl, ite2 (fun _ => ?_) (fun z => absurd rfl z)⟩⟩⟩
      exact ⟨_, rfl, _, rfl, .inr ⟨⟨_, .base (.lst (g1 _ _ (s3 _ _ ha))), kit_ty (by decide +kernel)⟩, fun G2 g2 => ⟨_, rfl, ite2 (fun _ => k _ (same_tr s3 (same_tr g1 g2))) (fun z => absurd rfl z)⟩⟩⟩
    · refine ⟨_, rfl, _, _, _, _, false, rfl, .ty "tuple", .base (.str _), kit_ty (by decide +kernel), _, rfl, ite2 (fun z => absurd z (by decide)) (fun _ => ?_)⟩
      refine ⟨_, rfl, _, rfl, .inl ⟨y, rfl, by omega, fun G1 g1 => ⟨_, rfl, ite2 (fun _ => ?_) (fun z => absurd (by rw [yw]; rfl) z)⟩⟩⟩
      exact ⟨_, rfl, _, rfl, .inl ⟨y, rfl, by omega, fun G2 g2 => ⟨_, rfl, ite2 (fun _ => k _ (same_tr s3 (same_tr g1 g2))) (fun z => absurd (by rw [yn]; rfl) z)⟩⟩⟩
end
end K12

set_option Elab.async false
set_option linter.all false
set_option maxRecDepth 100000
set_option maxHeartbeats 4000000
/-! The parts of the standard book as the law writes them. -/
namespace K12
open PySem PySem.Spec PyProof.Rows L2 Mine TL StX SkE
abbrev sKP : Stmt := top 56
def spKP (K : PySem.W.Frag) : Sp := fun vs H Q _ => vs = [] ∧ ∀ (r mk tk : Addr) (ms : List V) (ps as : List Addr) (H' : Hp), Same H H' → SqT K H' r [.ref mk, .ref tk] → MakesAt H' mk ms stdKs → KindsAt K H' mk ps stdKs → OpnsAt K H' tk as stdOs → Q (.ref r) H'
section
variable {P : Program} {w : World} {K : PySem.W.Frag} {mg : Str → Option Value} {base : Heap}
theorem scKP : FnScope ["_law_makes", "_law_taking"] [] (defScope sKP) := ⟨rfl, rfl, rfl, by decide +kernel, rfl, by decide +kernel, by decide +kernel⟩
theorem ok_kp {f : Addr} {fd : FuncData} (F : Fun K "_law_known_parts" "_law_known_parts" sKP f fd) : FnOk P w K mg base CX0 1 f fd [] (spKP K) := by
  refine F.ok scKP (fun vs H Q E h => ?_) (fun cdv A outer s H vs Q E hr h => ?_)
  · obtain ⟨rfl, _⟩ := h
    rfl
  · obtain ⟨rfl, k⟩ := h
    refine ⟨_, pss_cons (ps_set (i := 0) scKP.nd rfl (.inl rfl) (pe_tupF (pa_cons (pe_tup (pa_cons pe_str (pa_cons pe_int pa_nil))) (pa_cons (pe_tup (pa_cons pe_str (pa_cons pe_int pa_nil))) (pa_cons (pe_tup (pa_cons pe_str (pa_cons pe_int pa_nil))) (pa_cons (pe_tup (pa_cons pe_str (pa_cons pe_int pa_nil))) (pa_cons (pe_tup (pa_cons pe_str (pa_cons pe_int pa_nil))) (pa_cons (pe_tup (pa_cons pe_str (pa_cons pe_int pa_nil))) pa_nil))))))))
      (pss_cons (ps_set (i := 1) scKP.nd rfl (.inl rfl) (pe_tup (pa_cons (pe_tup (pa_cons pe_str (pa_cons pe_str (pa_cons pe_int (pa_cons (pe_tup pa_nil) pa_nil))))) (pa_cons (pe_tup (pa_cons pe_str (pa_cons pe_str (pa_cons pe_int (pa_cons (pe_tup (pa_cons (pe_tup (pa_cons pe_str (pa_cons pe_int pa_nil))) pa_nil)) pa_nil))))) (pa_cons (pe_tup (pa_cons pe_str (pa_cons pe_str (pa_cons pe_int (pa_cons (pe_tup pa_nil) pa_nil))))) pa_nil)))))
      (pss_cons (ps_set (i := 1) scKP.nd rfl (.inl rfl) (pe_op op_catA (pv 1) (pe_tup (pa_cons (pe_tup (pa_cons pe_str (pa_cons pe_str (pa_cons pe_int (pa_cons (pe_tup pa_nil) pa_nil))))) (pa_cons (pe_tup (pa_cons pe_str (pa_cons pe_str (pa_cons pe_int (pa_cons (pe_tup (pa_cons (pe_tup (pa_cons pe_str (pa_cons pe_str (pa_cons pe_int pa_nil)))) pa_nil)) pa_nil))))) pa_nil)))))
      (pss_one (ps_ret (pe_tup (pa_cons (pv 0) (pa_cons (pe_op op_catA (pv 1) (pe_tup (pa_cons (pe_tup (pa_cons pe_str (pa_cons pe_str (pa_cons pe_int (pa_cons (pe_tup (pa_cons (pe_tup (pa_cons pe_str (pa_cons pe_int (pa_cons pe_str pa_nil)))) pa_nil)) pa_nil))))) pa_nil))) pa_nil))))))), ?_⟩
    have line : sizeLine = 16777216 := sizeLine_eq
    refine ⟨(by show 2 ≤ sizeLine; omega), fun k0 hk0 => ?_⟩
    have fk0 : Same H (upd H k0 (.tup [.str (PySem.Str.ofString "half"), .int 1])) := same_new same_rfl hk0
    have ek0 : upd H k0 (.tup [.str (PySem.Str.ofString "half"), .int 1]) k0 = some (.tup [.str (PySem.Str.ofString "half"), .int 1]) := upd_same
    generalize upd H k0 (.tup [.str (PySem.Str.ofString "half"), .int 1]) = H1 at fk0 ek0 ⊢
    refine ⟨(by show 2 ≤ sizeLine; omega), fun k1 hk1 => ?_⟩
    have fk1 : Same H1 (upd H1 k1 (.tup [.str (PySem.Str.ofString "lock"), .int 2])) := same_new same_rfl hk1
    have ek1 : upd H1 k1 (.tup [.str (PySem.Str.ofString "lock"), .int 2]) k1 = some (.tup [.str (PySem.Str.ofString "lock"), .int 2]) := upd_same
    generalize upd H1 k1 (.tup [.str (PySem.Str.ofString "lock"), .int 2]) = H2 at fk1 ek1 ⊢
    refine ⟨(by show 2 ≤ sizeLine; omega), fun k2 hk2 => ?_⟩
    have fk2 : Same H2 (upd H2 k2 (.tup [.str (PySem.Str.ofString "mark"), .int 1])) := same_new same_rfl hk2
    have ek2 : upd H2 k2 (.tup [.str (PySem.Str.ofString "mark"), .int 1]) k2 = some (.tup [.str (PySem.Str.ofString "mark"), .int 1]) := upd_same
    generalize upd H2 k2 (.tup [.str (PySem.Str.ofString "mark"), .int 1]) = H3 at fk2 ek2 ⊢
    refine ⟨(by show 2 ≤ sizeLine; omega), fun k3 hk3 => ?_⟩
    have fk3 : Same H3 (upd H3 k3 (.tup [.str (PySem.Str.ofString "pair"), .int 2])) := same_new same_rfl hk3
    have ek3 : upd H3 k3 (.tup [.str (PySem.Str.ofString "pair"), .int 2]) k3 = some (.tup [.str (PySem.Str.ofString "pair"), .int 2]) := upd_same
    generalize upd H3 k3 (.tup [.str (PySem.Str.ofString "pair"), .int 2]) = H4 at fk3 ek3 ⊢
    refine ⟨(by show 2 ≤ sizeLine; omega), fun k4 hk4 => ?_⟩
    have fk4 : Same H4 (upd H4 k4 (.tup [.str (PySem.Str.ofString "seal"), .int 2])) := same_new same_rfl hk4
    have ek4 : upd H4 k4 (.tup [.str (PySem.Str.ofString "seal"), .int 2]) k4 = some (.tup [.str (PySem.Str.ofString "seal"), .int 2]) := upd_same
    generalize upd H4 k4 (.tup [.str (PySem.Str.ofString "seal"), .int 2]) = H5 at fk4 ek4 ⊢
    refine ⟨(by show 2 ≤ sizeLine; omega), fun k5 hk5 => ?_⟩
    have fk5 : Same H5 (upd H5 k5 (.tup [.str (PySem.Str.ofString "sign"), .int 2])) := same_new same_rfl hk5
    have ek5 : upd H5 k5 (.tup [.str (PySem.Str.ofString "sign"), .int 2]) k5 = some (.tup [.str (PySem.Str.ofString "sign"), .int 2]) := upd_same
    generalize upd H5 k5 (.tup [.str (PySem.Str.ofString "sign"), .int 2]) = H6 at fk5 ek5 ⊢
    refine ⟨(by show 6 ≤ sizeLine; omega), fun m obm hm dm => ?_⟩
    have fm : Same H6 (upd H6 m (.frz obm (.tup [.ref k0, .ref k1, .ref k2, .ref k3, .ref k4, .ref k5]))) := same_new same_rfl hm
    have em : upd H6 m (.frz obm (.tup [.ref k0, .ref k1, .ref k2, .ref k3, .ref k4, .ref k5])) m = some (.frz obm (.tup [.ref k0, .ref k1, .ref k2, .ref k3, .ref k4, .ref k5])) := upd_same
    generalize upd H6 m (.frz obm (.tup [.ref k0, .ref k1, .ref k2, .ref k3, .ref k4, .ref k5])) = H7 at fm em ⊢
    show Ends.nx _ _ H7
    refine ⟨Nat.zero_le _, fun u0 hu0 => ?_⟩
    have fu0 : Same H7 (upd H7 u0 (.tup [])) := same_new same_rfl hu0
    have eu0 : upd H7 u0 (.tup []) u0 = some (.tup []) := upd_same
    generalize upd H7 u0 (.tup []) = H8 at fu0 eu0 ⊢
    refine ⟨(by show 4 ≤ sizeLine; omega), fun o0 ho0 => ?_⟩
    have fo0 : Same H8 (upd H8 o0 (.tup [.str (PySem.Str.ofString "first"), .str (PySem.Str.ofString "pair"), .int 0, .ref u0])) := same_new same_rfl ho0
    have eo0 : upd H8 o0 (.tup [.str (PySem.Str.ofString "first"), .str (PySem.Str.ofString "pair"), .int 0, .ref u0]) o0 = some (.tup [.str (PySem.Str.ofString "first"), .str (PySem.Str.ofString "pair"), .int 0, .ref u0]) := upd_same
    generalize upd H8 o0 (.tup [.str (PySem.Str.ofString "first"), .str (PySem.Str.ofString "pair"), .int 0, .ref u0]) = H9 at fo0 eo0 ⊢
    refine ⟨(by show 2 ≤ sizeLine; omega), fun n1 hn1 => ?_⟩
    have fn1 : Same H9 (upd H9 n1 (.tup [.str (PySem.Str.ofString "part"), .int 1])) := same_new same_rfl hn1
    have en1 : upd H9 n1 (.tup [.str (PySem.Str.ofString "part"), .int 1]) n1 = some (.tup [.str (PySem.Str.ofString "part"), .int 1]) := upd_same
    generalize upd H9 n1 (.tup [.str (PySem.Str.ofString "part"), .int 1]) = H10 at fn1 en1 ⊢
    refine ⟨(by show 1 ≤ sizeLine; omega), fun u1 hu1 => ?_⟩
    have fu1 : Same H10 (upd H10 u1 (.tup [.ref n1])) := same_new same_rfl hu1
    have eu1 : upd H10 u1 (.tup [.ref n1]) u1 = some (.tup [.ref n1]) := upd_same
    generalize upd H10 u1 (.tup [.ref n1]) = H11 at fu1 eu1 ⊢
    refine ⟨(by show 4 ≤ sizeLine; omega), fun o1 ho1 => ?_⟩
    have fo1 : Same H11 (upd H11 o1 (.tup [.str (PySem.Str.ofString "open"), .str (PySem.Str.ofString "lock"), .int 0, .ref u1])) := same_new same_rfl ho1
    have eo1 : upd H11 o1 (.tup [.str (PySem.Str.ofString "open"), .str (PySem.Str.ofString "lock"), .int 0, .ref u1]) o1 = some (.tup [.str (PySem.Str.ofString "open"), .str (PySem.Str.ofString "lock"), .int 0, .ref u1]) := upd_same
    generalize upd H11 o1 (.tup [.str (PySem.Str.ofString "open"), .str (PySem.Str.ofString "lock"), .int 0, .ref u1]) = H12 at fo1 eo1 ⊢
    refine ⟨Nat.zero_le _, fun u2 hu2 => ?_⟩
    have fu2 : Same H12 (upd H12 u2 (.tup [])) := same_new same_rfl hu2
    have eu2 : upd H12 u2 (.tup []) u2 = some (.tup []) := upd_same
    generalize upd H12 u2 (.tup []) = H13 at fu2 eu2 ⊢
    refine ⟨(by show 4 ≤ sizeLine; omega), fun o2 ho2 => ?_⟩
    have fo2 : Same H13 (upd H13 o2 (.tup [.str (PySem.Str.ofString "second"), .str (PySem.Str.ofString "pair"), .int 1, .ref u2])) := same_new same_rfl ho2
    have eo2 : upd H13 o2 (.tup [.str (PySem.Str.ofString "second"), .str (PySem.Str.ofString "pair"), .int 1, .ref u2]) o2 = some (.tup [.str (PySem.Str.ofString "second"), .str (PySem.Str.ofString "pair"), .int 1, .ref u2]) := upd_same
    generalize upd H13 o2 (.tup [.str (PySem.Str.ofString "second"), .str (PySem.Str.ofString "pair"), .int 1, .ref u2]) = H14 at fo2 eo2 ⊢
    refine ⟨(by show 3 ≤ sizeLine; omega), fun t1 ht1 => ?_⟩
    have ft1 : Same H14 (upd H14 t1 (.tup [.ref o0, .ref o1, .ref o2])) := same_new same_rfl ht1
    have et1 : upd H14 t1 (.tup [.ref o0, .ref o1, .ref o2]) t1 = some (.tup [.ref o0, .ref o1, .ref o2]) := upd_same
    generalize upd H14 t1 (.tup [.ref o0, .ref o1, .ref o2]) = H15 at ft1 et1 ⊢
    show Ends.nx _ _ H15
    refine ⟨_, rfl, ?_⟩
    refine ⟨Nat.zero_le _, fun u3 hu3 => ?_⟩
    have fu3 : Same H15 (upd H15 u3 (.tup [])) := same_new same_rfl hu3
    have eu3 : upd H15 u3 (.tup []) u3 = some (.tup []) := upd_same
    generalize upd H15 u3 (.tup []) = H16 at fu3 eu3 ⊢
    refine ⟨(by show 4 ≤ sizeLine; omega), fun o3 ho3 => ?_⟩
    have fo3 : Same H16 (upd H16 o3 (.tup [.str (PySem.Str.ofString "shown"), .str (PySem.Str.ofString "sign"), .int 0, .ref u3])) := same_new same_rfl ho3
    have eo3 : upd H16 o3 (.tup [.str (PySem.Str.ofString "shown"), .str (PySem.Str.ofString "sign"), .int 0, .ref u3]) o3 = some (.tup [.str (PySem.Str.ofString "shown"), .str (PySem.Str.ofString "sign"), .int 0, .ref u3]) := upd_same
    generalize upd H16 o3 (.tup [.str (PySem.Str.ofString "shown"), .str (PySem.Str.ofString "sign"), .int 0, .ref u3]) = H17 at fo3 eo3 ⊢
    refine ⟨(by show 3 ≤ sizeLine; omega), fun n4 hn4 => ?_⟩
    have fn4 : Same H17 (upd H17 n4 (.tup [.str (PySem.Str.ofString "around"), .str (PySem.Str.ofString "half"), .int 1])) := same_new same_rfl hn4
    have en4 : upd H17 n4 (.tup [.str (PySem.Str.ofString "around"), .str (PySem.Str.ofString "half"), .int 1]) n4 = some (.tup [.str (PySem.Str.ofString "around"), .str (PySem.Str.ofString "half"), .int 1]) := upd_same
    generalize upd H17 n4 (.tup [.str (PySem.Str.ofString "around"), .str (PySem.Str.ofString "half"), .int 1]) = H18 at fn4 en4 ⊢
    refine ⟨(by show 1 ≤ sizeLine; omega), fun u4 hu4 => ?_⟩
    have fu4 : Same H18 (upd H18 u4 (.tup [.ref n4])) := same_new same_rfl hu4
    have eu4 : upd H18 u4 (.tup [.ref n4]) u4 = some (.tup [.ref n4]) := upd_same
    generalize upd H18 u4 (.tup [.ref n4]) = H19 at fu4 eu4 ⊢
    refine ⟨(by show 4 ≤ sizeLine; omega), fun o4 ho4 => ?_⟩
    have fo4 : Same H19 (upd H19 o4 (.tup [.str (PySem.Str.ofString "signed"), .str (PySem.Str.ofString "sign"), .int 0, .ref u4])) := same_new same_rfl ho4
    have eo4 : upd H19 o4 (.tup [.str (PySem.Str.ofString "signed"), .str (PySem.Str.ofString "sign"), .int 0, .ref u4]) o4 = some (.tup [.str (PySem.Str.ofString "signed"), .str (PySem.Str.ofString "sign"), .int 0, .ref u4]) := upd_same
    generalize upd H19 o4 (.tup [.str (PySem.Str.ofString "signed"), .str (PySem.Str.ofString "sign"), .int 0, .ref u4]) = H20 at fo4 eo4 ⊢
    refine ⟨(by show 2 ≤ sizeLine; omega), fun t2 ht2 => ?_⟩
    have ft2 : Same H20 (upd H20 t2 (.tup [.ref o3, .ref o4])) := same_new same_rfl ht2
    have et2 : upd H20 t2 (.tup [.ref o3, .ref o4]) t2 = some (.tup [.ref o3, .ref o4]) := upd_same
    generalize upd H20 t2 (.tup [.ref o3, .ref o4]) = H21 at ft2 et2 ⊢
    refine ⟨t1, t2, [.ref o0, .ref o1, .ref o2], [.ref o3, .ref o4], rfl, rfl, SqT.of (ft2 _ _ (fo4 _ _ (fu4 _ _ (fn4 _ _ (fo3 _ _ (fu3 _ _ (et1))))))), SqT.of (et2), (by show 5 ≤ sizeLine; omega), (fun z => nomatch z), (fun _ z => nomatch z), fun _ _ t3 ht3 => ?_⟩
    have ft3 : Same H21 (upd H21 t3 (.tup [.ref o0, .ref o1, .ref o2, .ref o3, .ref o4])) := same_new same_rfl ht3
    have et3 : upd H21 t3 (.tup [.ref o0, .ref o1, .ref o2, .ref o3, .ref o4]) t3 = some (.tup [.ref o0, .ref o1, .ref o2, .ref o3, .ref o4]) := upd_same
    replace ft3 : Same H21 (upd H21 t3 (.tup [.ref o0, .ref o1, .ref o2, .ref o3, .ref o4])) := ft3
    show Ends.nx _ _ (upd H21 t3 (.tup [.ref o0, .ref o1, .ref o2, .ref o3, .ref o4]))
    generalize upd H21 t3 (.tup [.ref o0, .ref o1, .ref o2, .ref o3, .ref o4]) = H22 at ft3 et3 ⊢
    refine ⟨_, rfl, ?_⟩
    refine ⟨_, rfl, ?_⟩
    refine ⟨(by show 3 ≤ sizeLine; omega), fun n5 hn5 => ?_⟩
    have fn5 : Same H22 (upd H22 n5 (.tup [.str (PySem.Str.ofString "inside"), .int 1, .str (PySem.Str.ofString "half")])) := same_new same_rfl hn5
    have en5 : upd H22 n5 (.tup [.str (PySem.Str.ofString "inside"), .int 1, .str (PySem.Str.ofString "half")]) n5 = some (.tup [.str (PySem.Str.ofString "inside"), .int 1, .str (PySem.Str.ofString "half")]) := upd_same
    generalize upd H22 n5 (.tup [.str (PySem.Str.ofString "inside"), .int 1, .str (PySem.Str.ofString "half")]) = H23 at fn5 en5 ⊢
    refine ⟨(by show 1 ≤ sizeLine; omega), fun u5 hu5 => ?_⟩
    have fu5 : Same H23 (upd H23 u5 (.tup [.ref n5])) := same_new same_rfl hu5
    have eu5 : upd H23 u5 (.tup [.ref n5]) u5 = some (.tup [.ref n5]) := upd_same
    generalize upd H23 u5 (.tup [.ref n5]) = H24 at fu5 eu5 ⊢
    refine ⟨(by show 4 ≤ sizeLine; omega), fun o5 ho5 => ?_⟩
    have fo5 : Same H24 (upd H24 o5 (.tup [.str (PySem.Str.ofString "unseal"), .str (PySem.Str.ofString "seal"), .int 0, .ref u5])) := same_new same_rfl ho5
    have eo5 : upd H24 o5 (.tup [.str (PySem.Str.ofString "unseal"), .str (PySem.Str.ofString "seal"), .int 0, .ref u5]) o5 = some (.tup [.str (PySem.Str.ofString "unseal"), .str (PySem.Str.ofString "seal"), .int 0, .ref u5]) := upd_same
    generalize upd H24 o5 (.tup [.str (PySem.Str.ofString "unseal"), .str (PySem.Str.ofString "seal"), .int 0, .ref u5]) = H25 at fo5 eo5 ⊢
    refine ⟨(by show 1 ≤ sizeLine; omega), fun t4 ht4 => ?_⟩
    have ft4 : Same H25 (upd H25 t4 (.tup [.ref o5])) := same_new same_rfl ht4
    have et4 : upd H25 t4 (.tup [.ref o5]) t4 = some (.tup [.ref o5]) := upd_same
    generalize upd H25 t4 (.tup [.ref o5]) = H26 at ft4 et4 ⊢
    refine ⟨t3, t4, [.ref o0, .ref o1, .ref o2, .ref o3, .ref o4], [.ref o5], rfl, rfl, SqT.of (ft4 _ _ (fo5 _ _ (fu5 _ _ (fn5 _ _ (et3))))), SqT.of (et4), (by show 6 ≤ sizeLine; omega), (fun z => nomatch z), (fun _ z => nomatch z), fun _ _ t5 ht5 => ?_⟩
    have ft5 : Same H26 (upd H26 t5 (.tup [.ref o0, .ref o1, .ref o2, .ref o3, .ref o4, .ref o5])) := same_new same_rfl ht5
    have et5 : upd H26 t5 (.tup [.ref o0, .ref o1, .ref o2, .ref o3, .ref o4, .ref o5]) t5 = some (.tup [.ref o0, .ref o1, .ref o2, .ref o3, .ref o4, .ref o5]) := upd_same
    replace ft5 : Same H26 (upd H26 t5 (.tup [.ref o0, .ref o1, .ref o2, .ref o3, .ref o4, .ref o5])) := ft5
    refine ⟨(by show 2 ≤ sizeLine; omega), fun r hr => ?_⟩
    have hr2 : upd H26 t5 (.tup [.ref o0, .ref o1, .ref o2, .ref o3, .ref o4, .ref o5]) r = none := hr
    show Q (.ref r) (upd (upd H26 t5 (.tup [.ref o0, .ref o1, .ref o2, .ref o3, .ref o4, .ref o5])) r (.tup [.ref m, .ref t5]))
    clear hr
    generalize upd H26 t5 (.tup [.ref o0, .ref o1, .ref o2, .ref o3, .ref o4, .ref o5]) = H27 at ft5 et5 hr2 ⊢
    have fr : Same H27 (upd H27 r (.tup [.ref m, .ref t5])) := same_new same_rfl hr2
    have er : upd H27 r (.tup [.ref m, .ref t5]) r = some (.tup [.ref m, .ref t5]) := upd_same
    generalize upd H27 r (.tup [.ref m, .ref t5]) = H28 at fr er ⊢
    have gr : Same H28 H28 := same_rfl
    have gt5 : Same H27 H28 := same_tr fr gr
    have gt4 : Same H26 H28 := same_tr ft5 gt5
    have go5 : Same H25 H28 := same_tr ft4 gt4
    have gu5 : Same H24 H28 := same_tr fo5 go5
    have gn5 : Same H23 H28 := same_tr fu5 gu5
    have gt3 : Same H22 H28 := same_tr fn5 gn5
    have gt2 : Same H21 H28 := same_tr ft3 gt3
    have go4 : Same H20 H28 := same_tr ft2 gt2
    have gu4 : Same H19 H28 := same_tr fo4 go4
    have gn4 : Same H18 H28 := same_tr fu4 gu4
    have go3 : Same H17 H28 := same_tr fn4 gn4
    have gu3 : Same H16 H28 := same_tr fo3 go3
    have gt1 : Same H15 H28 := same_tr fu3 gu3
    have go2 : Same H14 H28 := same_tr ft1 gt1
    have gu2 : Same H13 H28 := same_tr fo2 go2
    have go1 : Same H12 H28 := same_tr fu2 gu2
    have gu1 : Same H11 H28 := same_tr fo1 go1
    have gn1 : Same H10 H28 := same_tr fu1 gu1
    have go0 : Same H9 H28 := same_tr fn1 gn1
    have gu0 : Same H8 H28 := same_tr fo0 go0
    have gm : Same H7 H28 := same_tr fu0 gu0
    have gk5 : Same H6 H28 := same_tr fm gm
    have gk4 : Same H5 H28 := same_tr fk5 gk5
    have gk3 : Same H4 H28 := same_tr fk4 gk4
    have gk2 : Same H3 H28 := same_tr fk3 gk3
    have gk1 : Same H2 H28 := same_tr fk2 gk2
    have gk0 : Same H1 H28 := same_tr fk1 gk1
    have g0 : Same H H28 := same_tr fk0 gk0
    have em : H28 m = some (.frz obm (.tup ([k0, k1, k2, k3, k4, k5].map V.ref))) := (gm _ _ em)
    exact k r m t5 ([k0, k1, k2, k3, k4, k5].map V.ref) [k0, k1, k2, k3, k4, k5] [o0, o1, o2, o3, o4, o5] H28 g0 (SqT.of (gr _ _ er)) ⟨⟨obm, em, dm⟩, (.cons (.tup (gk0 _ _ ek0) (.cons (.str _) (.cons (.int _) .nil))) (.cons (.tup (gk1 _ _ ek1) (.cons (.str _) (.cons (.int _) .nil))) (.cons (.tup (gk2 _ _ ek2) (.cons (.str _) (.cons (.int _) .nil))) (.cons (.tup (gk3 _ _ ek3) (.cons (.str _) (.cons (.int _) .nil))) (.cons (.tup (gk4 _ _ ek4) (.cons (.str _) (.cons (.int _) .nil))) (.cons (.tup (gk5 _ _ ek5) (.cons (.str _) (.cons (.int _) .nil))) .nil)))))), by decide +kernel, by decide +kernel⟩ ⟨.inl ⟨obm, em, dm⟩, (.cons (SqT.of (gk0 _ _ ek0)) (.cons (SqT.of (gk1 _ _ ek1)) (.cons (SqT.of (gk2 _ _ ek2)) (.cons (SqT.of (gk3 _ _ ek3)) (.cons (SqT.of (gk4 _ _ ek4)) (.cons (SqT.of (gk5 _ _ ek5)) .nil))))))⟩ ⟨SqT.of (gt5 _ _ et5), (.cons ⟨u0, [], SqT.of (go0 _ _ eo0), SqT.of (gu0 _ _ eu0), .nil⟩ (.cons ⟨u1, [n1], SqT.of (go1 _ _ eo1), SqT.of (gu1 _ _ eu1), (.cons (SqT.of (gn1 _ _ en1)) .nil)⟩ (.cons ⟨u2, [], SqT.of (go2 _ _ eo2), SqT.of (gu2 _ _ eu2), .nil⟩ (.cons ⟨u3, [], SqT.of (go3 _ _ eo3), SqT.of (gu3 _ _ eu3), .nil⟩ (.cons ⟨u4, [n4], SqT.of (go4 _ _ eo4), SqT.of (gu4 _ _ eu4), (.cons (SqT.of (gn4 _ _ en4)) .nil)⟩ (.cons ⟨u5, [n5], SqT.of (go5 _ _ eo5), SqT.of (gu5 _ _ eu5), (.cons (SqT.of (gn5 _ _ en5)) .nil)⟩ .nil))))))⟩
end
end K12

set_option Elab.async false
set_option linter.all false
set_option maxRecDepth 100000
set_option maxHeartbeats 4000000
/-! What the openings of the standard book need, as the law sees it. -/
namespace K12
open PySem PySem.Spec PyProof.Rows L2 Mine TL StX SkE
abbrev sNR : Stmt := top 57
abbrev lw (s : String) : Str := PySem.Str.ofString s
structure Has (K : PySem.W.Frag) (mg : Str → Option Value) (n : Str) (f : Addr) : Prop where
  g : mg n = some (.ref f)
  k : PySem.W.keepIn K (.ref f) = true
def spNR (K : PySem.W.Frag) (C : Addr) : Sp := fun vs H Q _ => ∃ (c : Addr) (vx vk : V) (dx dk : PyData), vs = [.ref c, vx, vk] ∧ BkAt K C H c stdKs stdOs ∧ Dp K H vx dx ∧ Dp K H vk dk ∧ drawn dx = true ∧ drawn dk = true ∧ sz dx ≤ 6 ∧ sz dk ≤ 6 ∧ PyData.depth dx ≤ 5 ∧ PyData.depth dk ≤ 5 ∧ ∀ H', Same H H' → Q (.bl true) H'
structure TxtNR (K : PySem.W.Frag) (mg : Str → Option Value) (C fM : Addr) : Prop where
  cl : Cls K C
  mN : Meth K C "needed" fM
  repr : mg "repr" = none
  isi : mg "isinstance" = none
  tuple : mg "tuple" = none
theorem std_nd : (stdOs.map (·.w)).Nodup := by decide +kernel
theorem nd_no {m : Int} : ∀ n ∈ ([] : List Nd), NdOk m stdKs n := fun _ z => (List.not_mem_nil z).elim
theorem nd_one {m : Int} {n0 : Nd} (h : NdOk m stdKs n0) : ∀ n ∈ [n0], NdOk m stdKs n := fun n hn => by
  rw [List.mem_singleton.mp hn]
  exact h
theorem half_in : (lw "half", (1 : Int)) ∈ stdKs := by decide +kernel
theorem sz_ge {d : PyData} : 1 ≤ sz d := by have := sz_pos d; omega
theorem none_sh : Shows 10 0 .none := ⟨rfl, by decide +kernel, Nat.zero_le _⟩
theorem big {d : PyData} {n l : Nat} (h : Shows n l d) (a : n ≤ 2000) (b : l ≤ 8) : Shows 2000 8 d := h.up a b
theorem one_sh {d : PyData} (h : Shows 600 7 d) : Shows 2000 8 (.tuple [d]) := (shows_tuple (n := 600) (l := 7) (ds := [d]) fun e he => by rw [List.mem_singleton.mp he]; exact h).up (by show 1 * 600 + 2 * 1 + 3 ≤ 2000; decide) (by decide)
theorem nil_sh : Shows 2000 8 (.tuple []) := (shows_tuple (n := 0) (l := 0) (ds := []) fun _ z => (List.not_mem_nil z).elim).up (by decide) (by decide)
theorem half_dr {d : PyData} (h : drawn d = true) : drawn (.tuple [.str (lw "half"), d]) = true := drawn_tup (by decide +kernel) (List.cons_ne_nil _ _) fun p hp => by rw [List.mem_singleton.mp hp]; exact h
theorem mark_dr {d : PyData} (h : drawn d = true) : drawn (.tuple [.str (lw "mark"), d]) = true := drawn_tup (by decide +kernel) (List.cons_ne_nil _ _) fun p hp => by rw [List.mem_singleton.mp hp]; exact h
/-- what is within a thing, if this is a half -/
def inH : PyData → PyData
  | .tuple (.str c :: d1 :: _) => if c = lw "half" then .tuple [d1] else .none
  | _ => .none
theorem need_in (dx : PyData) : ∀ {dk : PyData}, thing dk = true → needD [.inside 1 (lw "half")] [dx, dk] = inH dk := fun {dk} h => by
  rcases thing_cases h with ⟨c, rfl⟩ | ⟨c, ps, rfl, ne, _⟩
  · rfl
  · cases ps with
    | nil => exact absurd rfl ne
    | cons d1 r =>
      show (match allSome [if c = lw "half" then some d1 else none] with | some l => PyData.tuple l | none => .none) = (if c = lw "half" then .tuple [d1] else .none)
      by_cases hc : c = lw "half"
      · rw [if_pos hc, if_pos hc]
        rfl
      · rw [if_neg hc, if_neg hc]
        rfl
theorem in_sh {dk : PyData} (h : drawn dk = true) (s : sz dk ≤ 6) (dep : PyData.depth dk ≤ 5) : Shows 2000 8 (inH dk) := by
  rcases drawn_cases h with ⟨c, rfl, _⟩ | ⟨c, ps, rfl, ne, _, hp⟩
  · exact big none_sh (by decide) (by decide)
  · cases ps with
    | nil => exact absurd rfl ne
    | cons d1 r =>
      show Shows 2000 8 (if c = lw "half" then .tuple [d1] else .none)
      by_cases hc : c = lw "half"
      · rw [if_pos hc]
        have k1 : sz d1 + 1 ≤ sz (.tuple (.str c :: d1 :: r)) := kid_sz (show d1 ∈ kids (.tuple (.str c :: d1 :: r)) from List.mem_cons_self ..)
        have dd : PyData.depth d1 ≤ 4 := kid_depth (d := .tuple (.str c :: d1 :: r)) (show d1 ∈ kids (.tuple (.str c :: d1 :: r)) from List.mem_cons_self ..) dep
        exact one_sh ((shows_thing (hp d1 (List.mem_cons_self ..)) dd).up (by omega) (by omega))
      · rw [if_neg hc]
        exact big none_sh (by decide) (by decide)
abbrev toldD (dk : PyData) : List PyData := [.tuple [dk], .tuple [.tuple [.str (lw "half"), dk]], .tuple [], .tuple [dk], .none, .tuple [], .tuple []]
theorem told_sh {dk : PyData} (h : drawn dk = true) (s : sz dk ≤ 6) (dep : PyData.depth dk ≤ 5) : Shows sizeLine 30 (.list [.list (toldD dk), inH dk]) := by
  have a := (shows_thing h dep).up (n' := 600) (l' := 7) (by omega) (by omega)
  have hs : sz (.tuple [.str (lw "half"), dk]) = 1 + sz dk := by
    rw [sz_tup]
    simp
  have hd : PyData.depth (.tuple [.str (lw "half"), dk]) ≤ 6 := by
    simp only [PyData.depth, PyData.depthAll]
    omega
  have b := (shows_thing (half_dr h) hd).up (n' := 600) (l' := 7) (by omega) (by omega)
  have c := shows_list (n := 2000) (l := 8) (ds := toldD dk) fun e he => by
    simp only [toldD, List.mem_cons, List.not_mem_nil, or_false] at he
    rcases he with rfl | rfl | rfl | rfl | rfl | rfl | rfl
    · exact one_sh a
    · exact one_sh b
    · exact nil_sh
    · exact one_sh a
    · exact big none_sh (by decide) (by decide)
    · exact nil_sh
    · exact nil_sh
  have c' : Shows 20000 9 (.list (toldD dk)) := c.up (by show 7 * 2000 + 2 * 7 + 3 ≤ 20000; decide) (by decide)
  have d := shows_list (n := 20000) (l := 9) (ds := [.list (toldD dk), inH dk]) fun e he => by
    simp only [List.mem_cons, List.not_mem_nil, or_false] at he
    rcases he with rfl | rfl
    · exact c'
    · exact (in_sh h s dep).up (by decide) (by decide)
  exact d.up (by rw [sizeLine_eq]; show 2 * 20000 + 2 * 2 + 3 ≤ 16777216; decide) (by decide)
section
variable {P : Program} {w : World} {K : PySem.W.Frag} {mg : Str → Option Value} {base : Heap}
abbrev nNR : List Str := ["_law_code", "_law_x", "_law_k", "_law_told", "_law_due", "_law_plain", "_law_wanted"]
theorem scNR : FnScope nNR ["_law_code", "_law_x", "_law_k"] (defScope sNR) := ⟨rfl, rfl, rfl, by decide +kernel, rfl, by decide +kernel, by decide +kernel⟩
theorem ok_nr {f C fM : Addr} {fd dM : FuncData} (F : Fun K "_law_needed_right" "_law_needed_right" sNR f fd) (T : TxtNR K mg C fM) (GM : FnOk P w K mg base CX0 2 fM dM ["self", "opening", "thing"] (spNeeded K C)) (bM : Binds K dM ["self", "opening", "thing"] []) :
    FnG P w K mg base 4 f fd ["_law_code", "_law_x", "_law_k"] (spNR K C) := by
  refine fnG_of F scNR (fun vs H Q E h => ?_) (fun cdv A outer s H vs Q E hr hgd h => ?_)
  · obtain ⟨_, _, _, _, _, rfl, _⟩ := h
    rfl
  · obtain ⟨c, vx, vk, dx, dk, rfl, B, hx, hk, rx, rk, sx, sk, px, pk', k⟩ := h
    have hr3 : Room 3 _ := hr
    have hr2 : Room 2 _ := hr.mono (by decide)
    have hun : (A.deeper (envOfC "_law_needed_right" (defScope sNR) s.heap.objs.size f cdv)).units + 30 + 20 < cLine := by
      have := hr.un
      omega
    have line : sizeLine = 16777216 := sizeLine_eq
    refine ⟨_, pss_cons (ps_set (i := 3) scNR.nd rfl (.inl rfl) (pe_lst (pa_cons (pe_meth (pv 0) T.cl T.mN GM hr2 bM .nil pass0 (pa_cons pe_str (pa_cons (pe_tup (pa_cons pe_str (pa_cons (pv 1) (pa_cons (pv 2) pa_nil)))) pa_nil))) (pa_cons (pe_meth (pv 0) T.cl T.mN GM hr2 bM .nil pass0 (pa_cons pe_str (pa_cons (pe_tup (pa_cons pe_str (pa_cons (pv 1) (pa_cons (pv 2) pa_nil)))) pa_nil))) pa_nil))))
      (pss_cons (ps_set (i := 3) scNR.nd rfl (.inl rfl) (pe_op op_cat (pv 3) (pe_lst (pa_cons (pe_meth (pv 0) T.cl T.mN GM hr2 bM .nil pass0 (pa_cons pe_str (pa_cons (pe_tup (pa_cons pe_str (pa_cons (pv 1) (pa_cons (pv 2) pa_nil)))) pa_nil))) (pa_cons (pe_meth (pv 0) T.cl T.mN GM hr2 bM .nil pass0 (pa_cons pe_str (pa_cons (pe_tup (pa_cons pe_str (pa_cons (pv 1) (pa_cons (pe_tup (pa_cons pe_str (pa_cons (pv 2) pa_nil))) pa_nil)))) pa_nil))) pa_nil)))))
      (pss_cons (ps_set (i := 3) scNR.nd rfl (.inl rfl) (pe_op op_cat (pv 3) (pe_lst (pa_cons (pe_meth (pv 0) T.cl T.mN GM hr2 bM .nil pass0 (pa_cons pe_str (pa_cons (pe_tup (pa_cons pe_str (pa_cons (pv 1) (pa_cons (pe_tup (pa_cons pe_str (pa_cons (pv 2) pa_nil))) pa_nil)))) pa_nil))) pa_nil))))
      (pss_cons (ps_set (i := 3) scNR.nd rfl (.inl rfl) (pe_op op_cat (pv 3) (pe_lst (pa_cons (pe_meth (pv 0) T.cl T.mN GM hr2 bM .nil pass0 (pa_cons pe_str (pa_cons (pe_tup (pa_cons pe_str (pa_cons (pv 1) (pa_cons (pv 2) pa_nil)))) pa_nil))) (pa_cons (pe_meth (pv 0) T.cl T.mN GM hr2 bM .nil pass0 (pa_cons pe_str (pa_cons (pe_tup (pa_cons pe_str (pa_cons (pv 1) (pa_cons (pv 2) pa_nil)))) pa_nil))) pa_nil)))))
      (pss_cons (ps_set (i := 4) scNR.nd rfl (.inl rfl) (pe_lst (pa_cons (pe_tup (pa_cons (pv 2) pa_nil)) (pa_cons (pe_tup (pa_cons (pe_tup (pa_cons pe_str (pa_cons (pv 2) pa_nil))) pa_nil)) (pa_cons (pe_tup pa_nil) (pa_cons (pe_tup (pa_cons (pv 2) pa_nil)) (pa_cons pe_non (pa_cons (pe_tup pa_nil) (pa_cons (pe_tup pa_nil) pa_nil)))))))))
      (pss_cons (ps_set (i := 5) scNR.nd rfl (.inl rfl) (pe_meth (pv 0) T.cl T.mN GM hr2 bM .nil pass0 (pa_cons pe_str (pa_cons (pe_tup (pa_cons pe_str (pa_cons (pv 1) (pa_cons (pv 2) pa_nil)))) pa_nil))))
      (pss_cons (ps_set (i := 6) scNR.nd rfl (.inl rfl) (pe_ifExp (PW.pt (pw_and (pt_val (pe_callB call_isi (by rfl) T.isi (by decide +kernel) (pa_cons (pv 2) (pa_cons (pe_bltn (v := .ty "tuple") rfl T.tuple (by decide +kernel) rfl) pa_nil))))
        (pw_and1 (pt_cmpR op_eq (pe_ix ix_tup (pv 2) pe_int (fun _ _ => rfl)) pe_str (nomark _))))) (pe_tup (pa_cons (pe_ix ix_tup (pv 2) pe_int (fun _ _ => rfl)) pa_nil)) pe_non))
      (pss_one (ps_ret (pe_cmpR op_eq (pe_callB (call_reprQ (m := 30) hgd hun) (by rfl) T.repr (by decide +kernel) (pa_cons (pe_lst (pa_cons (pv 3) (pa_cons (pv 5) pa_nil))) pa_nil)) (pe_callB (call_reprQ (m := 30) hgd hun) (by rfl) T.repr (by decide +kernel) (pa_cons (pe_lst (pa_cons (pv 4) (pa_cons (pv 6) pa_nil))) pa_nil)) (nomark _))))))))))  , ?_⟩
    obtain ⟨dc, kb, ob, pb, ab, hc, _, _⟩ := id B.ex
    refine ⟨_, rfl, c, dc, _, rfl, hc, rfl, _, rfl, _, rfl, (by show 3 ≤ sizeLine; omega), fun q1 hq1 => ?_⟩
    have fq1 : Same H (upd H q1 (.tup [.str (lw "lock"), vx, vk])) := same_new same_rfl hq1
    have eq1 : upd H q1 (.tup [.str (lw "lock"), vx, vk]) q1 = some (.tup [.str (lw "lock"), vx, vk]) := upd_same
    generalize upd H q1 (.tup [.str (lw "lock"), vx, vk]) = G2 at fq1 eq1 ⊢
    refine ⟨c, q1, stdOs, ⟨lw "open", lw "lock", 0, [.part 1]⟩, 1, lw "lock", [vx, vk], [dx, dk], 2, stdKs, rfl, B.same (fq1), rfl, std_nd, nd_one ⟨by decide, by decide⟩, by decide, rfl, SqT.of eq1, .cons (dp_same (fq1) _ _ hx) (.cons (dp_same (fq1) _ _ hk) .nil), (fun d hd => by
      rcases List.mem_cons.mp hd with rfl | hd
      · exact ⟨rx, by omega⟩
      · rw [List.mem_singleton.mp hd]
        exact ⟨rk, by omega⟩), by decide, fun v3 G4 s5 d6 => ?_⟩
    replace d6 : Dp K G4 v3 (.tuple [dk]) := d6
    refine ⟨_, rfl, c, dc, _, rfl, s5 _ _ (fq1 _ _ (hc)), rfl, _, rfl, _, rfl, (by show 3 ≤ sizeLine; omega), fun q7 hq7 => ?_⟩
    have fq7 : Same G4 (upd G4 q7 (.tup [.str (lw "sign"), vx, vk])) := same_new same_rfl hq7
    have eq7 : upd G4 q7 (.tup [.str (lw "sign"), vx, vk]) q7 = some (.tup [.str (lw "sign"), vx, vk]) := upd_same
    generalize upd G4 q7 (.tup [.str (lw "sign"), vx, vk]) = G8 at fq7 eq7 ⊢
    refine ⟨c, q7, stdOs, ⟨lw "signed", lw "sign", 0, [.around (lw "half") 1]⟩, 4, lw "sign", [vx, vk], [dx, dk], 2, stdKs, rfl, B.same ((same_tr fq1 (same_tr s5 fq7))), rfl, std_nd, nd_one ⟨half_in, by decide, by decide⟩, by decide, rfl, SqT.of eq7, .cons (dp_same ((same_tr fq1 (same_tr s5 fq7))) _ _ hx) (.cons (dp_same ((same_tr fq1 (same_tr s5 fq7))) _ _ hk) .nil), (fun d hd => by
      rcases List.mem_cons.mp hd with rfl | hd
      · exact ⟨rx, by omega⟩
      · rw [List.mem_singleton.mp hd]
        exact ⟨rk, by omega⟩), by decide, fun v9 G10 s11 d12 => ?_⟩
    replace d12 : Dp K G10 v9 (.tuple [.tuple [.str (lw "half"), dk]]) := d12
    refine ⟨(by show 2 ≤ sizeLine; omega), fun q13 hq13 => ?_⟩
    have fq13 : Same G10 (upd G10 q13 (.lst [v3, v9])) := same_new same_rfl hq13
    have eq13 : upd G10 q13 (.lst [v3, v9]) q13 = some (.lst [v3, v9]) := upd_same
    show Ends.nx _ _ (upd G10 q13 (.lst [v3, v9]))
    generalize upd G10 q13 (.lst [v3, v9]) = G14 at fq13 eq13 ⊢
    refine ⟨_, rfl, ?_⟩
    refine ⟨_, rfl, c, dc, _, rfl, fq13 _ _ (s11 _ _ (fq7 _ _ (s5 _ _ (fq1 _ _ (hc))))), rfl, _, rfl, _, rfl, (by show 3 ≤ sizeLine; omega), fun q15 hq15 => ?_⟩
    have fq15 : Same G14 (upd G14 q15 (.tup [.str (lw "sign"), vx, vk])) := same_new same_rfl hq15
    have eq15 : upd G14 q15 (.tup [.str (lw "sign"), vx, vk]) q15 = some (.tup [.str (lw "sign"), vx, vk]) := upd_same
    generalize upd G14 q15 (.tup [.str (lw "sign"), vx, vk]) = G16 at fq15 eq15 ⊢
    refine ⟨c, q15, stdOs, ⟨lw "shown", lw "sign", 0, []⟩, 3, lw "sign", [vx, vk], [dx, dk], 2, stdKs, rfl, B.same ((same_tr fq1 (same_tr s5 (same_tr fq7 (same_tr s11 (same_tr fq13 fq15)))))), rfl, std_nd, nd_no, by decide, rfl, SqT.of eq15, .cons (dp_same ((same_tr fq1 (same_tr s5 (same_tr fq7 (same_tr s11 (same_tr fq13 fq15)))))) _ _ hx) (.cons (dp_same ((same_tr fq1 (same_tr s5 (same_tr fq7 (same_tr s11 (same_tr fq13 fq15)))))) _ _ hk) .nil), (fun d hd => by
      rcases List.mem_cons.mp hd with rfl | hd
      · exact ⟨rx, by omega⟩
      · rw [List.mem_singleton.mp hd]
        exact ⟨rk, by omega⟩), by decide, fun v17 G18 s19 d20 => ?_⟩
    replace d20 : Dp K G18 v17 (.tuple []) := d20
    refine ⟨_, rfl, c, dc, _, rfl, s19 _ _ (fq15 _ _ (fq13 _ _ (s11 _ _ (fq7 _ _ (s5 _ _ (fq1 _ _ (hc))))))), rfl, _, rfl, _, rfl, (by show 2 ≤ sizeLine; omega), fun q21 hq21 => ?_⟩
    have fq21 : Same G18 (upd G18 q21 (.tup [.str (lw "half"), vk])) := same_new same_rfl hq21
    have eq21 : upd G18 q21 (.tup [.str (lw "half"), vk]) q21 = some (.tup [.str (lw "half"), vk]) := upd_same
    generalize upd G18 q21 (.tup [.str (lw "half"), vk]) = G22 at fq21 eq21 ⊢
    refine ⟨(by show 3 ≤ sizeLine; omega), fun q23 hq23 => ?_⟩
    have fq23 : Same G22 (upd G22 q23 (.tup [.str (lw "seal"), vx, .ref q21])) := same_new same_rfl hq23
    have eq23 : upd G22 q23 (.tup [.str (lw "seal"), vx, .ref q21]) q23 = some (.tup [.str (lw "seal"), vx, .ref q21]) := upd_same
    generalize upd G22 q23 (.tup [.str (lw "seal"), vx, .ref q21]) = G24 at fq23 eq23 ⊢
    refine ⟨c, q23, stdOs, ⟨lw "unseal", lw "seal", 0, [.inside 1 (lw "half")]⟩, 5, lw "seal", [vx, .ref q21], [dx, .tuple [.str (lw "half"), dk]], 2, stdKs, rfl, B.same ((same_tr fq1 (same_tr s5 (same_tr fq7 (same_tr s11 (same_tr fq13 (same_tr fq15 (same_tr s19 (same_tr fq21 fq23))))))))), rfl, std_nd, nd_one ⟨half_in, by decide, by decide⟩, by decide, rfl, SqT.of eq23, .cons (dp_same ((same_tr fq1 (same_tr s5 (same_tr fq7 (same_tr s11 (same_tr fq13 (same_tr fq15 (same_tr s19 (same_tr fq21 fq23))))))))) _ _ hx) (.cons (.tup (SqT.of (fq23 _ _ (eq21))) (.cons (.str _) (.cons (dp_same ((same_tr fq1 (same_tr s5 (same_tr fq7 (same_tr s11 (same_tr fq13 (same_tr fq15 (same_tr s19 (same_tr fq21 fq23))))))))) _ _ hk) .nil))) .nil), (fun d hd => by
      rcases List.mem_cons.mp hd with rfl | hd
      · exact ⟨rx, by omega⟩
      · rw [List.mem_singleton.mp hd]
        exact ⟨half_dr rk, by simp only [PyData.depth, PyData.depthAll]; omega⟩), by decide, fun v25 G26 s27 d28 => ?_⟩
    replace d28 : Dp K G26 v25 (.tuple [dk]) := d28
    refine ⟨(by show 2 ≤ sizeLine; omega), fun q29 hq29 => ?_⟩
    have fq29 : Same G26 (upd G26 q29 (.lst [v17, v25])) := same_new same_rfl hq29
    have eq29 : upd G26 q29 (.lst [v17, v25]) q29 = some (.lst [v17, v25]) := upd_same
    generalize upd G26 q29 (.lst [v17, v25]) = G30 at fq29 eq29 ⊢
    refine ⟨q13, q29, [v3, v9], [v17, v25], rfl, rfl, fq29 _ _ (s27 _ _ (fq23 _ _ (fq21 _ _ (s19 _ _ (fq15 _ _ (eq13)))))), eq29, (by show 4 ≤ sizeLine; omega), fun q31 hq31 => ?_⟩
    have fq31 : Same G30 (upd G30 q31 (.lst [v3, v9, v17, v25])) := same_new same_rfl hq31
    have eq31 : upd G30 q31 (.lst [v3, v9, v17, v25]) q31 = some (.lst [v3, v9, v17, v25]) := upd_same
    show Ends.nx _ _ (upd G30 q31 (.lst [v3, v9, v17, v25]))
    generalize upd G30 q31 (.lst [v3, v9, v17, v25]) = G32 at fq31 eq31 ⊢
    refine ⟨_, rfl, ?_⟩
    refine ⟨_, rfl, c, dc, _, rfl, fq31 _ _ (fq29 _ _ (s27 _ _ (fq23 _ _ (fq21 _ _ (s19 _ _ (fq15 _ _ (fq13 _ _ (s11 _ _ (fq7 _ _ (s5 _ _ (fq1 _ _ (hc)))))))))))), rfl, _, rfl, _, rfl, (by show 2 ≤ sizeLine; omega), fun q33 hq33 => ?_⟩
    have fq33 : Same G32 (upd G32 q33 (.tup [.str (lw "mark"), vk])) := same_new same_rfl hq33
    have eq33 : upd G32 q33 (.tup [.str (lw "mark"), vk]) q33 = some (.tup [.str (lw "mark"), vk]) := upd_same
    generalize upd G32 q33 (.tup [.str (lw "mark"), vk]) = G34 at fq33 eq33 ⊢
    refine ⟨(by show 3 ≤ sizeLine; omega), fun q35 hq35 => ?_⟩
    have fq35 : Same G34 (upd G34 q35 (.tup [.str (lw "seal"), vx, .ref q33])) := same_new same_rfl hq35
    have eq35 : upd G34 q35 (.tup [.str (lw "seal"), vx, .ref q33]) q35 = some (.tup [.str (lw "seal"), vx, .ref q33]) := upd_same
    generalize upd G34 q35 (.tup [.str (lw "seal"), vx, .ref q33]) = G36 at fq35 eq35 ⊢
    refine ⟨c, q35, stdOs, ⟨lw "unseal", lw "seal", 0, [.inside 1 (lw "half")]⟩, 5, lw "seal", [vx, .ref q33], [dx, .tuple [.str (lw "mark"), dk]], 2, stdKs, rfl, B.same ((same_tr fq1 (same_tr s5 (same_tr fq7 (same_tr s11 (same_tr fq13 (same_tr fq15 (same_tr s19 (same_tr fq21 (same_tr fq23 (same_tr s27 (same_tr fq29 (same_tr fq31 (same_tr fq33 fq35)))))))))))))), rfl, std_nd, nd_one ⟨half_in, by decide, by decide⟩, by decide, rfl, SqT.of eq35, .cons (dp_same ((same_tr fq1 (same_tr s5 (same_tr fq7 (same_tr s11 (same_tr fq13 (same_tr fq15 (same_tr s19 (same_tr fq21 (same_tr fq23 (same_tr s27 (same_tr fq29 (same_tr fq31 (same_tr fq33 fq35)))))))))))))) _ _ hx) (.cons (.tup (SqT.of (fq35 _ _ (eq33))) (.cons (.str _) (.cons (dp_same ((same_tr fq1 (same_tr s5 (same_tr fq7 (same_tr s11 (same_tr fq13 (same_tr fq15 (same_tr s19 (same_tr fq21 (same_tr fq23 (same_tr s27 (same_tr fq29 (same_tr fq31 (same_tr fq33 fq35)))))))))))))) _ _ hk) .nil))) .nil), (fun d hd => by
      rcases List.mem_cons.mp hd with rfl | hd
      · exact ⟨rx, by omega⟩
      · rw [List.mem_singleton.mp hd]
        exact ⟨mark_dr rk, by simp only [PyData.depth, PyData.depthAll]; omega⟩), by decide, fun v37 G38 s39 d40 => ?_⟩
    replace d40 : Dp K G38 v37 .none := d40
    refine ⟨(by show 1 ≤ sizeLine; omega), fun q41 hq41 => ?_⟩
    have fq41 : Same G38 (upd G38 q41 (.lst [v37])) := same_new same_rfl hq41
    have eq41 : upd G38 q41 (.lst [v37]) q41 = some (.lst [v37]) := upd_same
    generalize upd G38 q41 (.lst [v37]) = G42 at fq41 eq41 ⊢
    refine ⟨q31, q41, [v3, v9, v17, v25], [v37], rfl, rfl, fq41 _ _ (s39 _ _ (fq35 _ _ (fq33 _ _ (eq31)))), eq41, (by show 5 ≤ sizeLine; omega), fun q43 hq43 => ?_⟩
    have fq43 : Same G42 (upd G42 q43 (.lst [v3, v9, v17, v25, v37])) := same_new same_rfl hq43
    have eq43 : upd G42 q43 (.lst [v3, v9, v17, v25, v37]) q43 = some (.lst [v3, v9, v17, v25, v37]) := upd_same
    show Ends.nx _ _ (upd G42 q43 (.lst [v3, v9, v17, v25, v37]))
    generalize upd G42 q43 (.lst [v3, v9, v17, v25, v37]) = G44 at fq43 eq43 ⊢
    refine ⟨_, rfl, ?_⟩
    refine ⟨_, rfl, c, dc, _, rfl, fq43 _ _ (fq41 _ _ (s39 _ _ (fq35 _ _ (fq33 _ _ (fq31 _ _ (fq29 _ _ (s27 _ _ (fq23 _ _ (fq21 _ _ (s19 _ _ (fq15 _ _ (fq13 _ _ (s11 _ _ (fq7 _ _ (s5 _ _ (fq1 _ _ (hc))))))))))))))))), rfl, _, rfl, _, rfl, (by show 3 ≤ sizeLine; omega), fun q45 hq45 => ?_⟩
    have fq45 : Same G44 (upd G44 q45 (.tup [.str (lw "pair"), vx, vk])) := same_new same_rfl hq45
    have eq45 : upd G44 q45 (.tup [.str (lw "pair"), vx, vk]) q45 = some (.tup [.str (lw "pair"), vx, vk]) := upd_same
    generalize upd G44 q45 (.tup [.str (lw "pair"), vx, vk]) = G46 at fq45 eq45 ⊢
    refine ⟨c, q45, stdOs, ⟨lw "first", lw "pair", 0, []⟩, 0, lw "pair", [vx, vk], [dx, dk], 2, stdKs, rfl, B.same ((same_tr fq1 (same_tr s5 (same_tr fq7 (same_tr s11 (same_tr fq13 (same_tr fq15 (same_tr s19 (same_tr fq21 (same_tr fq23 (same_tr s27 (same_tr fq29 (same_tr fq31 (same_tr fq33 (same_tr fq35 (same_tr s39 (same_tr fq41 (same_tr fq43 fq45)))))))))))))))))), rfl, std_nd, nd_no, by decide, rfl, SqT.of eq45, .cons (dp_same ((same_tr fq1 (same_tr s5 (same_tr fq7 (same_tr s11 (same_tr fq13 (same_tr fq15 (same_tr s19 (same_tr fq21 (same_tr fq23 (same_tr s27 (same_tr fq29 (same_tr fq31 (same_tr fq33 (same_tr fq35 (same_tr s39 (same_tr fq41 (same_tr fq43 fq45)))))))))))))))))) _ _ hx) (.cons (dp_same ((same_tr fq1 (same_tr s5 (same_tr fq7 (same_tr s11 (same_tr fq13 (same_tr fq15 (same_tr s19 (same_tr fq21 (same_tr fq23 (same_tr s27 (same_tr fq29 (same_tr fq31 (same_tr fq33 (same_tr fq35 (same_tr s39 (same_tr fq41 (same_tr fq43 fq45)))))))))))))))))) _ _ hk) .nil), (fun d hd => by
      rcases List.mem_cons.mp hd with rfl | hd
      · exact ⟨rx, by omega⟩
      · rw [List.mem_singleton.mp hd]
        exact ⟨rk, by omega⟩), by decide, fun v47 G48 s49 d50 => ?_⟩
    replace d50 : Dp K G48 v47 (.tuple []) := d50
    refine ⟨_, rfl, c, dc, _, rfl, s49 _ _ (fq45 _ _ (fq43 _ _ (fq41 _ _ (s39 _ _ (fq35 _ _ (fq33 _ _ (fq31 _ _ (fq29 _ _ (s27 _ _ (fq23 _ _ (fq21 _ _ (s19 _ _ (fq15 _ _ (fq13 _ _ (s11 _ _ (fq7 _ _ (s5 _ _ (fq1 _ _ (hc))))))))))))))))))), rfl, _, rfl, _, rfl, (by show 3 ≤ sizeLine; omega), fun q51 hq51 => ?_⟩
    have fq51 : Same G48 (upd G48 q51 (.tup [.str (lw "pair"), vx, vk])) := same_new same_rfl hq51
    have eq51 : upd G48 q51 (.tup [.str (lw "pair"), vx, vk]) q51 = some (.tup [.str (lw "pair"), vx, vk]) := upd_same
    generalize upd G48 q51 (.tup [.str (lw "pair"), vx, vk]) = G52 at fq51 eq51 ⊢
    refine ⟨c, q51, stdOs, ⟨lw "second", lw "pair", 1, []⟩, 2, lw "pair", [vx, vk], [dx, dk], 2, stdKs, rfl, B.same ((same_tr fq1 (same_tr s5 (same_tr fq7 (same_tr s11 (same_tr fq13 (same_tr fq15 (same_tr s19 (same_tr fq21 (same_tr fq23 (same_tr s27 (same_tr fq29 (same_tr fq31 (same_tr fq33 (same_tr fq35 (same_tr s39 (same_tr fq41 (same_tr fq43 (same_tr fq45 (same_tr s49 fq51)))))))))))))))))))), rfl, std_nd, nd_no, by decide, rfl, SqT.of eq51, .cons (dp_same ((same_tr fq1 (same_tr s5 (same_tr fq7 (same_tr s11 (same_tr fq13 (same_tr fq15 (same_tr s19 (same_tr fq21 (same_tr fq23 (same_tr s27 (same_tr fq29 (same_tr fq31 (same_tr fq33 (same_tr fq35 (same_tr s39 (same_tr fq41 (same_tr fq43 (same_tr fq45 (same_tr s49 fq51)))))))))))))))))))) _ _ hx) (.cons (dp_same ((same_tr fq1 (same_tr s5 (same_tr fq7 (same_tr s11 (same_tr fq13 (same_tr fq15 (same_tr s19 (same_tr fq21 (same_tr fq23 (same_tr s27 (same_tr fq29 (same_tr fq31 (same_tr fq33 (same_tr fq35 (same_tr s39 (same_tr fq41 (same_tr fq43 (same_tr fq45 (same_tr s49 fq51)))))))))))))))))))) _ _ hk) .nil), (fun d hd => by
      rcases List.mem_cons.mp hd with rfl | hd
      · exact ⟨rx, by omega⟩
      · rw [List.mem_singleton.mp hd]
        exact ⟨rk, by omega⟩), by decide, fun v53 G54 s55 d56 => ?_⟩
    replace d56 : Dp K G54 v53 (.tuple []) := d56
    refine ⟨(by show 2 ≤ sizeLine; omega), fun q57 hq57 => ?_⟩
    have fq57 : Same G54 (upd G54 q57 (.lst [v47, v53])) := same_new same_rfl hq57
    have eq57 : upd G54 q57 (.lst [v47, v53]) q57 = some (.lst [v47, v53]) := upd_same
    generalize upd G54 q57 (.lst [v47, v53]) = G58 at fq57 eq57 ⊢
    refine ⟨q43, q57, [v3, v9, v17, v25, v37], [v47, v53], rfl, rfl, fq57 _ _ (s55 _ _ (fq51 _ _ (s49 _ _ (fq45 _ _ (eq43))))), eq57, (by show 7 ≤ sizeLine; omega), fun q59 hq59 => ?_⟩
    have fq59 : Same G58 (upd G58 q59 (.lst [v3, v9, v17, v25, v37, v47, v53])) := same_new same_rfl hq59
    have eq59 : upd G58 q59 (.lst [v3, v9, v17, v25, v37, v47, v53]) q59 = some (.lst [v3, v9, v17, v25, v37, v47, v53]) := upd_same
    show Ends.nx _ _ (upd G58 q59 (.lst [v3, v9, v17, v25, v37, v47, v53]))
    generalize upd G58 q59 (.lst [v3, v9, v17, v25, v37, v47, v53]) = G60 at fq59 eq59 ⊢
    refine ⟨_, rfl, (by show 1 ≤ sizeLine; omega), fun q61 hq61 => ?_⟩
    have fq61 : Same G60 (upd G60 q61 (.tup [vk])) := same_new same_rfl hq61
    have eq61 : upd G60 q61 (.tup [vk]) q61 = some (.tup [vk]) := upd_same
    generalize upd G60 q61 (.tup [vk]) = G62 at fq61 eq61 ⊢
    refine ⟨_, rfl, (by show 2 ≤ sizeLine; omega), fun q63 hq63 => ?_⟩
    have fq63 : Same G62 (upd G62 q63 (.tup [.str (lw "half"), vk])) := same_new same_rfl hq63
    have eq63 : upd G62 q63 (.tup [.str (lw "half"), vk]) q63 = some (.tup [.str (lw "half"), vk]) := upd_same
    generalize upd G62 q63 (.tup [.str (lw "half"), vk]) = G64 at fq63 eq63 ⊢
    refine ⟨(by show 1 ≤ sizeLine; omega), fun q65 hq65 => ?_⟩
    have fq65 : Same G64 (upd G64 q65 (.tup [.ref q63])) := same_new same_rfl hq65
    have eq65 : upd G64 q65 (.tup [.ref q63]) q65 = some (.tup [.ref q63]) := upd_same
    generalize upd G64 q65 (.tup [.ref q63]) = G66 at fq65 eq65 ⊢
    refine ⟨Nat.zero_le _, fun q67 hq67 => ?_⟩
    have fq67 : Same G66 (upd G66 q67 (.tup [])) := same_new same_rfl hq67
    have eq67 : upd G66 q67 (.tup []) q67 = some (.tup []) := upd_same
    generalize upd G66 q67 (.tup []) = G68 at fq67 eq67 ⊢
    refine ⟨_, rfl, (by show 1 ≤ sizeLine; omega), fun q69 hq69 => ?_⟩
    have fq69 : Same G68 (upd G68 q69 (.tup [vk])) := same_new same_rfl hq69
    have eq69 : upd G68 q69 (.tup [vk]) q69 = some (.tup [vk]) := upd_same
    generalize upd G68 q69 (.tup [vk]) = G70 at fq69 eq69 ⊢
    refine ⟨Nat.zero_le _, fun q71 hq71 => ?_⟩
    have fq71 : Same G70 (upd G70 q71 (.tup [])) := same_new same_rfl hq71
    have eq71 : upd G70 q71 (.tup []) q71 = some (.tup []) := upd_same
    generalize upd G70 q71 (.tup []) = G72 at fq71 eq71 ⊢
    refine ⟨Nat.zero_le _, fun q73 hq73 => ?_⟩
    have fq73 : Same G72 (upd G72 q73 (.tup [])) := same_new same_rfl hq73
    have eq73 : upd G72 q73 (.tup []) q73 = some (.tup []) := upd_same
    generalize upd G72 q73 (.tup []) = G74 at fq73 eq73 ⊢
    refine ⟨(by show 7 ≤ sizeLine; omega), fun q75 hq75 => ?_⟩
    have fq75 : Same G74 (upd G74 q75 (.lst [.ref q61, .ref q65, .ref q67, .ref q69, .non, .ref q71, .ref q73])) := same_new same_rfl hq75
    have eq75 : upd G74 q75 (.lst [.ref q61, .ref q65, .ref q67, .ref q69, .non, .ref q71, .ref q73]) q75 = some (.lst [.ref q61, .ref q65, .ref q67, .ref q69, .non, .ref q71, .ref q73]) := upd_same
    show Ends.nx _ _ (upd G74 q75 (.lst [.ref q61, .ref q65, .ref q67, .ref q69, .non, .ref q71, .ref q73]))
    generalize upd G74 q75 (.lst [.ref q61, .ref q65, .ref q67, .ref q69, .non, .ref q71, .ref q73]) = G76 at fq75 eq75 ⊢
    refine ⟨_, rfl, c, dc, _, rfl, fq75 _ _ (fq73 _ _ (fq71 _ _ (fq69 _ _ (fq67 _ _ (fq65 _ _ (fq63 _ _ (fq61 _ _ (fq59 _ _ (fq57 _ _ (s55 _ _ (fq51 _ _ (s49 _ _ (fq45 _ _ (fq43 _ _ (fq41 _ _ (s39 _ _ (fq35 _ _ (fq33 _ _ (fq31 _ _ (fq29 _ _ (s27 _ _ (fq23 _ _ (fq21 _ _ (s19 _ _ (fq15 _ _ (fq13 _ _ (s11 _ _ (fq7 _ _ (s5 _ _ (fq1 _ _ (hc))))))))))))))))))))))))))))))), rfl, _, rfl, _, rfl, (by show 3 ≤ sizeLine; omega), fun q77 hq77 => ?_⟩
    have fq77 : Same G76 (upd G76 q77 (.tup [.str (lw "seal"), vx, vk])) := same_new same_rfl hq77
    have eq77 : upd G76 q77 (.tup [.str (lw "seal"), vx, vk]) q77 = some (.tup [.str (lw "seal"), vx, vk]) := upd_same
    generalize upd G76 q77 (.tup [.str (lw "seal"), vx, vk]) = G78 at fq77 eq77 ⊢
    refine ⟨c, q77, stdOs, ⟨lw "unseal", lw "seal", 0, [.inside 1 (lw "half")]⟩, 5, lw "seal", [vx, vk], [dx, dk], 2, stdKs, rfl, B.same ((same_tr fq1 (same_tr s5 (same_tr fq7 (same_tr s11 (same_tr fq13 (same_tr fq15 (same_tr s19 (same_tr fq21 (same_tr fq23 (same_tr s27 (same_tr fq29 (same_tr fq31 (same_tr fq33 (same_tr fq35 (same_tr s39 (same_tr fq41 (same_tr fq43 (same_tr fq45 (same_tr s49 (same_tr fq51 (same_tr s55 (same_tr fq57 (same_tr fq59 (same_tr fq61 (same_tr fq63 (same_tr fq65 (same_tr fq67 (same_tr fq69 (same_tr fq71 (same_tr fq73 (same_tr fq75 fq77)))))))))))))))))))))))))))))))), rfl, std_nd, nd_one ⟨half_in, by decide, by decide⟩, by decide, rfl, SqT.of eq77, .cons (dp_same ((same_tr fq1 (same_tr s5 (same_tr fq7 (same_tr s11 (same_tr fq13 (same_tr fq15 (same_tr s19 (same_tr fq21 (same_tr fq23 (same_tr s27 (same_tr fq29 (same_tr fq31 (same_tr fq33 (same_tr fq35 (same_tr s39 (same_tr fq41 (same_tr fq43 (same_tr fq45 (same_tr s49 (same_tr fq51 (same_tr s55 (same_tr fq57 (same_tr fq59 (same_tr fq61 (same_tr fq63 (same_tr fq65 (same_tr fq67 (same_tr fq69 (same_tr fq71 (same_tr fq73 (same_tr fq75 fq77)))))))))))))))))))))))))))))))) _ _ hx) (.cons (dp_same ((same_tr fq1 (same_tr s5 (same_tr fq7 (same_tr s11 (same_tr fq13 (same_tr fq15 (same_tr s19 (same_tr fq21 (same_tr fq23 (same_tr s27 (same_tr fq29 (same_tr fq31 (same_tr fq33 (same_tr fq35 (same_tr s39 (same_tr fq41 (same_tr fq43 (same_tr fq45 (same_tr s49 (same_tr fq51 (same_tr s55 (same_tr fq57 (same_tr fq59 (same_tr fq61 (same_tr fq63 (same_tr fq65 (same_tr fq67 (same_tr fq69 (same_tr fq71 (same_tr fq73 (same_tr fq75 fq77)))))))))))))))))))))))))))))))) _ _ hk) .nil), (fun d hd => by
      rcases List.mem_cons.mp hd with rfl | hd
      · exact ⟨rx, by omega⟩
      · rw [List.mem_singleton.mp hd]
        exact ⟨rk, by omega⟩), by decide, fun v79 G80 s81 d82 => ?_⟩
    rw [need_in dx (drawn_th rk)] at d82
    show Ends.nx _ _ G80
    have sh := told_sh rk sk pk'
    have hkL := dp_same ((same_tr fq1 (same_tr s5 (same_tr fq7 (same_tr s11 (same_tr fq13 (same_tr fq15 (same_tr s19 (same_tr fq21 (same_tr fq23 (same_tr s27 (same_tr fq29 (same_tr fq31 (same_tr fq33 (same_tr fq35 (same_tr s39 (same_tr fq41 (same_tr fq43 (same_tr fq45 (same_tr s49 (same_tr fq51 (same_tr s55 (same_tr fq57 (same_tr fq59 (same_tr fq61 (same_tr fq63 (same_tr fq65 (same_tr fq67 (same_tr fq69 (same_tr fq71 (same_tr fq73 (same_tr fq75 (same_tr fq77 s81))))))))))))))))))))))))))))))))) _ _ hk
    rcases th_cases (drawn_th rk) hkL with ⟨cw, edk, rfl⟩ | ⟨b, cw, zs, qs, edk, rfl, hb2, hzs, qne, _⟩
    · refine ⟨_, rfl, _, _, _, _, false, rfl, .ty "tuple", .base (.str _), kit_ty (by decide +kernel), _, rfl, ite2 (fun z => absurd z (by decide)) (fun _ => ?_)⟩
      refine ite2 (fun z => absurd z (by decide)) (fun _ => ?_)
      show Ends.nx _ _ G80
      refine ⟨_, rfl, _, rfl, (by show 2 ≤ sizeLine; omega), fun q83 hq83 => ?_⟩
      have fq83 : Same G80 (upd G80 q83 (.lst [.ref q59, v79])) := same_new same_rfl hq83
      have eq83 : upd G80 q83 (.lst [.ref q59, v79]) q83 = some (.lst [.ref q59, v79]) := upd_same
      generalize upd G80 q83 (.lst [.ref q59, v79]) = G84 at fq83 eq83 ⊢
      refine ⟨q83, _, _, rfl, .cons (.lst (SqL.of (fq83 _ _ (s81 _ _ (fq77 _ _ (fq75 _ _ (fq73 _ _ (fq71 _ _ (fq69 _ _ (fq67 _ _ (fq65 _ _ (fq63 _ _ (fq61 _ _ (eq59))))))))))))) (.cons (dp_same ((same_tr fq7 (same_tr s11 (same_tr fq13 (same_tr fq15 (same_tr s19 (same_tr fq21 (same_tr fq23 (same_tr s27 (same_tr fq29 (same_tr fq31 (same_tr fq33 (same_tr fq35 (same_tr s39 (same_tr fq41 (same_tr fq43 (same_tr fq45 (same_tr s49 (same_tr fq51 (same_tr s55 (same_tr fq57 (same_tr fq59 (same_tr fq61 (same_tr fq63 (same_tr fq65 (same_tr fq67 (same_tr fq69 (same_tr fq71 (same_tr fq73 (same_tr fq75 (same_tr fq77 (same_tr s81 fq83)))))))))))))))))))))))))))))))) _ _ d6) (.cons (dp_same ((same_tr fq13 (same_tr fq15 (same_tr s19 (same_tr fq21 (same_tr fq23 (same_tr s27 (same_tr fq29 (same_tr fq31 (same_tr fq33 (same_tr fq35 (same_tr s39 (same_tr fq41 (same_tr fq43 (same_tr fq45 (same_tr s49 (same_tr fq51 (same_tr s55 (same_tr fq57 (same_tr fq59 (same_tr fq61 (same_tr fq63 (same_tr fq65 (same_tr fq67 (same_tr fq69 (same_tr fq71 (same_tr fq73 (same_tr fq75 (same_tr fq77 (same_tr s81 fq83)))))))))))))))))))))))))))))) _ _ d12) (.cons (dp_same ((same_tr fq21 (same_tr fq23 (same_tr s27 (same_tr fq29 (same_tr fq31 (same_tr fq33 (same_tr fq35 (same_tr s39 (same_tr fq41 (same_tr fq43 (same_tr fq45 (same_tr s49 (same_tr fq51 (same_tr s55 (same_tr fq57 (same_tr fq59 (same_tr fq61 (same_tr fq63 (same_tr fq65 (same_tr fq67 (same_tr fq69 (same_tr fq71 (same_tr fq73 (same_tr fq75 (same_tr fq77 (same_tr s81 fq83))))))))))))))))))))))))))) _ _ d20) (.cons (dp_same ((same_tr fq29 (same_tr fq31 (same_tr fq33 (same_tr fq35 (same_tr s39 (same_tr fq41 (same_tr fq43 (same_tr fq45 (same_tr s49 (same_tr fq51 (same_tr s55 (same_tr fq57 (same_tr fq59 (same_tr fq61 (same_tr fq63 (same_tr fq65 (same_tr fq67 (same_tr fq69 (same_tr fq71 (same_tr fq73 (same_tr fq75 (same_tr fq77 (same_tr s81 fq83)))))))))))))))))))))))) _ _ d28) (.cons (dp_same ((same_tr fq41 (same_tr fq43 (same_tr fq45 (same_tr s49 (same_tr fq51 (same_tr s55 (same_tr fq57 (same_tr fq59 (same_tr fq61 (same_tr fq63 (same_tr fq65 (same_tr fq67 (same_tr fq69 (same_tr fq71 (same_tr fq73 (same_tr fq75 (same_tr fq77 (same_tr s81 fq83))))))))))))))))))) _ _ d40) (.cons (dp_same ((same_tr fq51 (same_tr s55 (same_tr fq57 (same_tr fq59 (same_tr fq61 (same_tr fq63 (same_tr fq65 (same_tr fq67 (same_tr fq69 (same_tr fq71 (same_tr fq73 (same_tr fq75 (same_tr fq77 (same_tr s81 fq83))))))))))))))) _ _ d50) (.cons (dp_same ((same_tr fq57 (same_tr fq59 (same_tr fq61 (same_tr fq63 (same_tr fq65 (same_tr fq67 (same_tr fq69 (same_tr fq71 (same_tr fq73 (same_tr fq75 (same_tr fq77 (same_tr s81 fq83))))))))))))) _ _ d56) .nil)))))))) (.cons (dp_same (fq83) _ _ d82) .nil), .inl ⟨SqL.of eq83, sh, ?_⟩⟩
      refine ⟨_, rfl, _, rfl, (by show 2 ≤ sizeLine; omega), fun q85 hq85 => ?_⟩
      have fq85 : Same G84 (upd G84 q85 (.lst [.ref q75, .non])) := same_new same_rfl hq85
      have eq85 : upd G84 q85 (.lst [.ref q75, .non]) q85 = some (.lst [.ref q75, .non]) := upd_same
      generalize upd G84 q85 (.lst [.ref q75, .non]) = G86 at fq85 eq85 ⊢
      refine ⟨q85, _, [.list (toldD dk), inH dk], rfl, .cons (.lst (SqL.of (fq85 _ _ (fq83 _ _ (s81 _ _ (fq77 _ _ (eq75)))))) (.cons (.tup (SqT.of (fq85 _ _ (fq83 _ _ (s81 _ _ (fq77 _ _ (fq75 _ _ (fq73 _ _ (fq71 _ _ (fq69 _ _ (fq67 _ _ (fq65 _ _ (fq63 _ _ (eq61))))))))))))) (.cons (dp_same ((same_tr fq1 (same_tr s5 (same_tr fq7 (same_tr s11 (same_tr fq13 (same_tr fq15 (same_tr s19 (same_tr fq21 (same_tr fq23 (same_tr s27 (same_tr fq29 (same_tr fq31 (same_tr fq33 (same_tr fq35 (same_tr s39 (same_tr fq41 (same_tr fq43 (same_tr fq45 (same_tr s49 (same_tr fq51 (same_tr s55 (same_tr fq57 (same_tr fq59 (same_tr fq61 (same_tr fq63 (same_tr fq65 (same_tr fq67 (same_tr fq69 (same_tr fq71 (same_tr fq73 (same_tr fq75 (same_tr fq77 (same_tr s81 (same_tr fq83 fq85))))))))))))))))))))))))))))))))))) _ _ hk) .nil)) (.cons (.tup (SqT.of (fq85 _ _ (fq83 _ _ (s81 _ _ (fq77 _ _ (fq75 _ _ (fq73 _ _ (fq71 _ _ (fq69 _ _ (fq67 _ _ (eq65))))))))))) (.cons (.tup (SqT.of (fq85 _ _ (fq83 _ _ (s81 _ _ (fq77 _ _ (fq75 _ _ (fq73 _ _ (fq71 _ _ (fq69 _ _ (fq67 _ _ (fq65 _ _ (eq63)))))))))))) (.cons (.str _) (.cons (dp_same ((same_tr fq1 (same_tr s5 (same_tr fq7 (same_tr s11 (same_tr fq13 (same_tr fq15 (same_tr s19 (same_tr fq21 (same_tr fq23 (same_tr s27 (same_tr fq29 (same_tr fq31 (same_tr fq33 (same_tr fq35 (same_tr s39 (same_tr fq41 (same_tr fq43 (same_tr fq45 (same_tr s49 (same_tr fq51 (same_tr s55 (same_tr fq57 (same_tr fq59 (same_tr fq61 (same_tr fq63 (same_tr fq65 (same_tr fq67 (same_tr fq69 (same_tr fq71 (same_tr fq73 (same_tr fq75 (same_tr fq77 (same_tr s81 (same_tr fq83 fq85))))))))))))))))))))))))))))))))))) _ _ hk) .nil))) .nil)) (.cons (.tup (SqT.of (fq85 _ _ (fq83 _ _ (s81 _ _ (fq77 _ _ (fq75 _ _ (fq73 _ _ (fq71 _ _ (fq69 _ _ (eq67)))))))))) .nil) (.cons (.tup (SqT.of (fq85 _ _ (fq83 _ _ (s81 _ _ (fq77 _ _ (fq75 _ _ (fq73 _ _ (fq71 _ _ (eq69))))))))) (.cons (dp_same ((same_tr fq1 (same_tr s5 (same_tr fq7 (same_tr s11 (same_tr fq13 (same_tr fq15 (same_tr s19 (same_tr fq21 (same_tr fq23 (same_tr s27 (same_tr fq29 (same_tr fq31 (same_tr fq33 (same_tr fq35 (same_tr s39 (same_tr fq41 (same_tr fq43 (same_tr fq45 (same_tr s49 (same_tr fq51 (same_tr s55 (same_tr fq57 (same_tr fq59 (same_tr fq61 (same_tr fq63 (same_tr fq65 (same_tr fq67 (same_tr fq69 (same_tr fq71 (same_tr fq73 (same_tr fq75 (same_tr fq77 (same_tr s81 (same_tr fq83 fq85))))))))))))))))))))))))))))))))))) _ _ hk) .nil)) (.cons .non (.cons (.tup (SqT.of (fq85 _ _ (fq83 _ _ (s81 _ _ (fq77 _ _ (fq75 _ _ (fq73 _ _ (eq71)))))))) .nil) (.cons (.tup (SqT.of (fq85 _ _ (fq83 _ _ (s81 _ _ (fq77 _ _ (fq75 _ _ (eq73))))))) .nil) .nil)))))))) (.cons (by rw [edk]; exact .non) .nil), .inl ⟨SqL.of eq85, sh, rfl, ?_⟩⟩
      have ee : decide (V.str (PyData.shown (.list [.list (toldD dk), inH dk])) = V.str (PyData.shown (.list [.list (toldD dk), inH dk]))) = true := decide_eq_true rfl
      rw [ee]
      exact k _ ((same_tr fq1 (same_tr s5 (same_tr fq7 (same_tr s11 (same_tr fq13 (same_tr fq15 (same_tr s19 (same_tr fq21 (same_tr fq23 (same_tr s27 (same_tr fq29 (same_tr fq31 (same_tr fq33 (same_tr fq35 (same_tr s39 (same_tr fq41 (same_tr fq43 (same_tr fq45 (same_tr s49 (same_tr fq51 (same_tr s55 (same_tr fq57 (same_tr fq59 (same_tr fq61 (same_tr fq63 (same_tr fq65 (same_tr fq67 (same_tr fq69 (same_tr fq71 (same_tr fq73 (same_tr fq75 (same_tr fq77 (same_tr s81 (same_tr fq83 fq85)))))))))))))))))))))))))))))))))))
    · cases qs with
      | nil => exact absurd rfl qne
      | cons e1 er =>
      cases hzs with
      | @cons yv _ _ _ h2 r2 =>
      refine ⟨_, rfl, _, _, _, _, true, rfl, .ty "tuple", sqT_ty' hb2, kit_ty rfl, _, rfl, ite2 (fun _ => ?_) (fun z => absurd rfl z)⟩
      refine ⟨_, rfl, _, _, _, .str cw, rfl, rfl, hb2, at0, rfl, _, rfl, ite2 (fun hb => ?_) (fun hb => ?_)⟩
      · have hcc : cw = lw "half" := by
          have z := of_decide_eq_true hb
          injection z
        have ein : inH dk = .tuple [e1] := by rw [edk]; exact if_pos hcc
        refine ⟨_, rfl, _, _, _, _, rfl, rfl, hb2, atI_nat (j := 1) rfl, (by show 1 ≤ sizeLine; omega), fun q87 hq87 => ?_⟩
        have fq87 : Same G80 (upd G80 q87 (.tup [yv])) := same_new same_rfl hq87
        have eq87 : upd G80 q87 (.tup [yv]) q87 = some (.tup [yv]) := upd_same
        generalize upd G80 q87 (.tup [yv]) = G88 at fq87 eq87 ⊢
        show Ends.nx _ _ G88
        refine ⟨_, rfl, _, rfl, (by show 2 ≤ sizeLine; omega), fun q89 hq89 => ?_⟩
        have fq89 : Same G88 (upd G88 q89 (.lst [.ref q59, v79])) := same_new same_rfl hq89
        have eq89 : upd G88 q89 (.lst [.ref q59, v79]) q89 = some (.lst [.ref q59, v79]) := upd_same
        generalize upd G88 q89 (.lst [.ref q59, v79]) = G90 at fq89 eq89 ⊢
        refine ⟨q89, _, _, rfl, .cons (.lst (SqL.of (fq89 _ _ (fq87 _ _ (s81 _ _ (fq77 _ _ (fq75 _ _ (fq73 _ _ (fq71 _ _ (fq69 _ _ (fq67 _ _ (fq65 _ _ (fq63 _ _ (fq61 _ _ (eq59)))))))))))))) (.cons (dp_same ((same_tr fq7 (same_tr s11 (same_tr fq13 (same_tr fq15 (same_tr s19 (same_tr fq21 (same_tr fq23 (same_tr s27 (same_tr fq29 (same_tr fq31 (same_tr fq33 (same_tr fq35 (same_tr s39 (same_tr fq41 (same_tr fq43 (same_tr fq45 (same_tr s49 (same_tr fq51 (same_tr s55 (same_tr fq57 (same_tr fq59 (same_tr fq61 (same_tr fq63 (same_tr fq65 (same_tr fq67 (same_tr fq69 (same_tr fq71 (same_tr fq73 (same_tr fq75 (same_tr fq77 (same_tr s81 (same_tr fq87 fq89))))))))))))))))))))))))))))))))) _ _ d6) (.cons (dp_same ((same_tr fq13 (same_tr fq15 (same_tr s19 (same_tr fq21 (same_tr fq23 (same_tr s27 (same_tr fq29 (same_tr fq31 (same_tr fq33 (same_tr fq35 (same_tr s39 (same_tr fq41 (same_tr fq43 (same_tr fq45 (same_tr s49 (same_tr fq51 (same_tr s55 (same_tr fq57 (same_tr fq59 (same_tr fq61 (same_tr fq63 (same_tr fq65 (same_tr fq67 (same_tr fq69 (same_tr fq71 (same_tr fq73 (same_tr fq75 (same_tr fq77 (same_tr s81 (same_tr fq87 fq89))))))))))))))))))))))))))))))) _ _ d12) (.cons (dp_same ((same_tr fq21 (same_tr fq23 (same_tr s27 (same_tr fq29 (same_tr fq31 (same_tr fq33 (same_tr fq35 (same_tr s39 (same_tr fq41 (same_tr fq43 (same_tr fq45 (same_tr s49 (same_tr fq51 (same_tr s55 (same_tr fq57 (same_tr fq59 (same_tr fq61 (same_tr fq63 (same_tr fq65 (same_tr fq67 (same_tr fq69 (same_tr fq71 (same_tr fq73 (same_tr fq75 (same_tr fq77 (same_tr s81 (same_tr fq87 fq89)))))))))))))))))))))))))))) _ _ d20) (.cons (dp_same ((same_tr fq29 (same_tr fq31 (same_tr fq33 (same_tr fq35 (same_tr s39 (same_tr fq41 (same_tr fq43 (same_tr fq45 (same_tr s49 (same_tr fq51 (same_tr s55 (same_tr fq57 (same_tr fq59 (same_tr fq61 (same_tr fq63 (same_tr fq65 (same_tr fq67 (same_tr fq69 (same_tr fq71 (same_tr fq73 (same_tr fq75 (same_tr fq77 (same_tr s81 (same_tr fq87 fq89))))))))))))))))))))))))) _ _ d28) (.cons (dp_same ((same_tr fq41 (same_tr fq43 (same_tr fq45 (same_tr s49 (same_tr fq51 (same_tr s55 (same_tr fq57 (same_tr fq59 (same_tr fq61 (same_tr fq63 (same_tr fq65 (same_tr fq67 (same_tr fq69 (same_tr fq71 (same_tr fq73 (same_tr fq75 (same_tr fq77 (same_tr s81 (same_tr fq87 fq89)))))))))))))))))))) _ _ d40) (.cons (dp_same ((same_tr fq51 (same_tr s55 (same_tr fq57 (same_tr fq59 (same_tr fq61 (same_tr fq63 (same_tr fq65 (same_tr fq67 (same_tr fq69 (same_tr fq71 (same_tr fq73 (same_tr fq75 (same_tr fq77 (same_tr s81 (same_tr fq87 fq89)))))))))))))))) _ _ d50) (.cons (dp_same ((same_tr fq57 (same_tr fq59 (same_tr fq61 (same_tr fq63 (same_tr fq65 (same_tr fq67 (same_tr fq69 (same_tr fq71 (same_tr fq73 (same_tr fq75 (same_tr fq77 (same_tr s81 (same_tr fq87 fq89)))))))))))))) _ _ d56) .nil)))))))) (.cons (dp_same ((same_tr fq87 fq89)) _ _ d82) .nil), .inl ⟨SqL.of eq89, sh, ?_⟩⟩
        refine ⟨_, rfl, _, rfl, (by show 2 ≤ sizeLine; omega), fun q91 hq91 => ?_⟩
        have fq91 : Same G90 (upd G90 q91 (.lst [.ref q75, .ref q87])) := same_new same_rfl hq91
        have eq91 : upd G90 q91 (.lst [.ref q75, .ref q87]) q91 = some (.lst [.ref q75, .ref q87]) := upd_same
        generalize upd G90 q91 (.lst [.ref q75, .ref q87]) = G92 at fq91 eq91 ⊢
        refine ⟨q91, _, [.list (toldD dk), inH dk], rfl, .cons (.lst (SqL.of (fq91 _ _ (fq89 _ _ (fq87 _ _ (s81 _ _ (fq77 _ _ (eq75))))))) (.cons (.tup (SqT.of (fq91 _ _ (fq89 _ _ (fq87 _ _ (s81 _ _ (fq77 _ _ (fq75 _ _ (fq73 _ _ (fq71 _ _ (fq69 _ _ (fq67 _ _ (fq65 _ _ (fq63 _ _ (eq61)))))))))))))) (.cons (dp_same ((same_tr fq1 (same_tr s5 (same_tr fq7 (same_tr s11 (same_tr fq13 (same_tr fq15 (same_tr s19 (same_tr fq21 (same_tr fq23 (same_tr s27 (same_tr fq29 (same_tr fq31 (same_tr fq33 (same_tr fq35 (same_tr s39 (same_tr fq41 (same_tr fq43 (same_tr fq45 (same_tr s49 (same_tr fq51 (same_tr s55 (same_tr fq57 (same_tr fq59 (same_tr fq61 (same_tr fq63 (same_tr fq65 (same_tr fq67 (same_tr fq69 (same_tr fq71 (same_tr fq73 (same_tr fq75 (same_tr fq77 (same_tr s81 (same_tr fq87 (same_tr fq89 fq91)))))))))))))))))))))))))))))))))))) _ _ hk) .nil)) (.cons (.tup (SqT.of (fq91 _ _ (fq89 _ _ (fq87 _ _ (s81 _ _ (fq77 _ _ (fq75 _ _ (fq73 _ _ (fq71 _ _ (fq69 _ _ (fq67 _ _ (eq65)))))))))))) (.cons (.tup (SqT.of (fq91 _ _ (fq89 _ _ (fq87 _ _ (s81 _ _ (fq77 _ _ (fq75 _ _ (fq73 _ _ (fq71 _ _ (fq69 _ _ (fq67 _ _ (fq65 _ _ (eq63))))))))))))) (.cons (.str _) (.cons (dp_same ((same_tr fq1 (same_tr s5 (same_tr fq7 (same_tr s11 (same_tr fq13 (same_tr fq15 (same_tr s19 (same_tr fq21 (same_tr fq23 (same_tr s27 (same_tr fq29 (same_tr fq31 (same_tr fq33 (same_tr fq35 (same_tr s39 (same_tr fq41 (same_tr fq43 (same_tr fq45 (same_tr s49 (same_tr fq51 (same_tr s55 (same_tr fq57 (same_tr fq59 (same_tr fq61 (same_tr fq63 (same_tr fq65 (same_tr fq67 (same_tr fq69 (same_tr fq71 (same_tr fq73 (same_tr fq75 (same_tr fq77 (same_tr s81 (same_tr fq87 (same_tr fq89 fq91)))))))))))))))))))))))))))))))))))) _ _ hk) .nil))) .nil)) (.cons (.tup (SqT.of (fq91 _ _ (fq89 _ _ (fq87 _ _ (s81 _ _ (fq77 _ _ (fq75 _ _ (fq73 _ _ (fq71 _ _ (fq69 _ _ (eq67))))))))))) .nil) (.cons (.tup (SqT.of (fq91 _ _ (fq89 _ _ (fq87 _ _ (s81 _ _ (fq77 _ _ (fq75 _ _ (fq73 _ _ (fq71 _ _ (eq69)))))))))) (.cons (dp_same ((same_tr fq1 (same_tr s5 (same_tr fq7 (same_tr s11 (same_tr fq13 (same_tr fq15 (same_tr s19 (same_tr fq21 (same_tr fq23 (same_tr s27 (same_tr fq29 (same_tr fq31 (same_tr fq33 (same_tr fq35 (same_tr s39 (same_tr fq41 (same_tr fq43 (same_tr fq45 (same_tr s49 (same_tr fq51 (same_tr s55 (same_tr fq57 (same_tr fq59 (same_tr fq61 (same_tr fq63 (same_tr fq65 (same_tr fq67 (same_tr fq69 (same_tr fq71 (same_tr fq73 (same_tr fq75 (same_tr fq77 (same_tr s81 (same_tr fq87 (same_tr fq89 fq91)))))))))))))))))))))))))))))))))))) _ _ hk) .nil)) (.cons .non (.cons (.tup (SqT.of (fq91 _ _ (fq89 _ _ (fq87 _ _ (s81 _ _ (fq77 _ _ (fq75 _ _ (fq73 _ _ (eq71))))))))) .nil) (.cons (.tup (SqT.of (fq91 _ _ (fq89 _ _ (fq87 _ _ (s81 _ _ (fq77 _ _ (fq75 _ _ (eq73)))))))) .nil) .nil)))))))) (.cons (by rw [ein]; exact .tup (SqT.of (fq91 _ _ (fq89 _ _ (eq87)))) (.cons (dp_same ((same_tr fq87 (same_tr fq89 fq91))) _ _ h2) .nil)) .nil), .inl ⟨SqL.of eq91, sh, rfl, ?_⟩⟩
        have ee : decide (V.str (PyData.shown (.list [.list (toldD dk), inH dk])) = V.str (PyData.shown (.list [.list (toldD dk), inH dk]))) = true := decide_eq_true rfl
        rw [ee]
        exact k _ ((same_tr fq1 (same_tr s5 (same_tr fq7 (same_tr s11 (same_tr fq13 (same_tr fq15 (same_tr s19 (same_tr fq21 (same_tr fq23 (same_tr s27 (same_tr fq29 (same_tr fq31 (same_tr fq33 (same_tr fq35 (same_tr s39 (same_tr fq41 (same_tr fq43 (same_tr fq45 (same_tr s49 (same_tr fq51 (same_tr s55 (same_tr fq57 (same_tr fq59 (same_tr fq61 (same_tr fq63 (same_tr fq65 (same_tr fq67 (same_tr fq69 (same_tr fq71 (same_tr fq73 (same_tr fq75 (same_tr fq77 (same_tr s81 (same_tr fq87 (same_tr fq89 fq91))))))))))))))))))))))))))))))))))))
      · have hcc : ¬ cw = lw "half" := fun z => hb (by rw [z]; exact decide_eq_true rfl)
        have ein : inH dk = .none := by rw [edk]; exact if_neg hcc
        show Ends.nx _ _ G80
        refine ⟨_, rfl, _, rfl, (by show 2 ≤ sizeLine; omega), fun q93 hq93 => ?_⟩
        have fq93 : Same G80 (upd G80 q93 (.lst [.ref q59, v79])) := same_new same_rfl hq93
        have eq93 : upd G80 q93 (.lst [.ref q59, v79]) q93 = some (.lst [.ref q59, v79]) := upd_same
        generalize upd G80 q93 (.lst [.ref q59, v79]) = G94 at fq93 eq93 ⊢
        refine ⟨q93, _, _, rfl, .cons (.lst (SqL.of (fq93 _ _ (s81 _ _ (fq77 _ _ (fq75 _ _ (fq73 _ _ (fq71 _ _ (fq69 _ _ (fq67 _ _ (fq65 _ _ (fq63 _ _ (fq61 _ _ (eq59))))))))))))) (.cons (dp_same ((same_tr fq7 (same_tr s11 (same_tr fq13 (same_tr fq15 (same_tr s19 (same_tr fq21 (same_tr fq23 (same_tr s27 (same_tr fq29 (same_tr fq31 (same_tr fq33 (same_tr fq35 (same_tr s39 (same_tr fq41 (same_tr fq43 (same_tr fq45 (same_tr s49 (same_tr fq51 (same_tr s55 (same_tr fq57 (same_tr fq59 (same_tr fq61 (same_tr fq63 (same_tr fq65 (same_tr fq67 (same_tr fq69 (same_tr fq71 (same_tr fq73 (same_tr fq75 (same_tr fq77 (same_tr s81 fq93)))))))))))))))))))))))))))))))) _ _ d6) (.cons (dp_same ((same_tr fq13 (same_tr fq15 (same_tr s19 (same_tr fq21 (same_tr fq23 (same_tr s27 (same_tr fq29 (same_tr fq31 (same_tr fq33 (same_tr fq35 (same_tr s39 (same_tr fq41 (same_tr fq43 (same_tr fq45 (same_tr s49 (same_tr fq51 (same_tr s55 (same_tr fq57 (same_tr fq59 (same_tr fq61 (same_tr fq63 (same_tr fq65 (same_tr fq67 (same_tr fq69 (same_tr fq71 (same_tr fq73 (same_tr fq75 (same_tr fq77 (same_tr s81 fq93)))))))))))))))))))))))))))))) _ _ d12) (.cons (dp_same ((same_tr fq21 (same_tr fq23 (same_tr s27 (same_tr fq29 (same_tr fq31 (same_tr fq33 (same_tr fq35 (same_tr s39 (same_tr fq41 (same_tr fq43 (same_tr fq45 (same_tr s49 (same_tr fq51 (same_tr s55 (same_tr fq57 (same_tr fq59 (same_tr fq61 (same_tr fq63 (same_tr fq65 (same_tr fq67 (same_tr fq69 (same_tr fq71 (same_tr fq73 (same_tr fq75 (same_tr fq77 (same_tr s81 fq93))))))))))))))))))))))))))) _ _ d20) (.cons (dp_same ((same_tr fq29 (same_tr fq31 (same_tr fq33 (same_tr fq35 (same_tr s39 (same_tr fq41 (same_tr fq43 (same_tr fq45 (same_tr s49 (same_tr fq51 (same_tr s55 (same_tr fq57 (same_tr fq59 (same_tr fq61 (same_tr fq63 (same_tr fq65 (same_tr fq67 (same_tr fq69 (same_tr fq71 (same_tr fq73 (same_tr fq75 (same_tr fq77 (same_tr s81 fq93)))))))))))))))))))))))) _ _ d28) (.cons (dp_same ((same_tr fq41 (same_tr fq43 (same_tr fq45 (same_tr s49 (same_tr fq51 (same_tr s55 (same_tr fq57 (same_tr fq59 (same_tr fq61 (same_tr fq63 (same_tr fq65 (same_tr fq67 (same_tr fq69 (same_tr fq71 (same_tr fq73 (same_tr fq75 (same_tr fq77 (same_tr s81 fq93))))))))))))))))))) _ _ d40) (.cons (dp_same ((same_tr fq51 (same_tr s55 (same_tr fq57 (same_tr fq59 (same_tr fq61 (same_tr fq63 (same_tr fq65 (same_tr fq67 (same_tr fq69 (same_tr fq71 (same_tr fq73 (same_tr fq75 (same_tr fq77 (same_tr s81 fq93))))))))))))))) _ _ d50) (.cons (dp_same ((same_tr fq57 (same_tr fq59 (same_tr fq61 (same_tr fq63 (same_tr fq65 (same_tr fq67 (same_tr fq69 (same_tr fq71 (same_tr fq73 (same_tr fq75 (same_tr fq77 (same_tr s81 fq93))))))))))))) _ _ d56) .nil)))))))) (.cons (dp_same (fq93) _ _ d82) .nil), .inl ⟨SqL.of eq93, sh, ?_⟩⟩
        refine ⟨_, rfl, _, rfl, (by show 2 ≤ sizeLine; omega), fun q95 hq95 => ?_⟩
        have fq95 : Same G94 (upd G94 q95 (.lst [.ref q75, .non])) := same_new same_rfl hq95
        have eq95 : upd G94 q95 (.lst [.ref q75, .non]) q95 = some (.lst [.ref q75, .non]) := upd_same
        generalize upd G94 q95 (.lst [.ref q75, .non]) = G96 at fq95 eq95 ⊢
        refine ⟨q95, _, [.list (toldD dk), inH dk], rfl, .cons (.lst (SqL.of (fq95 _ _ (fq93 _ _ (s81 _ _ (fq77 _ _ (eq75)))))) (.cons (.tup (SqT.of (fq95 _ _ (fq93 _ _ (s81 _ _ (fq77 _ _ (fq75 _ _ (fq73 _ _ (fq71 _ _ (fq69 _ _ (fq67 _ _ (fq65 _ _ (fq63 _ _ (eq61))))))))))))) (.cons (dp_same ((same_tr fq1 (same_tr s5 (same_tr fq7 (same_tr s11 (same_tr fq13 (same_tr fq15 (same_tr s19 (same_tr fq21 (same_tr fq23 (same_tr s27 (same_tr fq29 (same_tr fq31 (same_tr fq33 (same_tr fq35 (same_tr s39 (same_tr fq41 (same_tr fq43 (same_tr fq45 (same_tr s49 (same_tr fq51 (same_tr s55 (same_tr fq57 (same_tr fq59 (same_tr fq61 (same_tr fq63 (same_tr fq65 (same_tr fq67 (same_tr fq69 (same_tr fq71 (same_tr fq73 (same_tr fq75 (same_tr fq77 (same_tr s81 (same_tr fq93 fq95))))))))))))))))))))))))))))))))))) _ _ hk) .nil)) (.cons (.tup (SqT.of (fq95 _ _ (fq93 _ _ (s81 _ _ (fq77 _ _ (fq75 _ _ (fq73 _ _ (fq71 _ _ (fq69 _ _ (fq67 _ _ (eq65))))))))))) (.cons (.tup (SqT.of (fq95 _ _ (fq93 _ _ (s81 _ _ (fq77 _ _ (fq75 _ _ (fq73 _ _ (fq71 _ _ (fq69 _ _ (fq67 _ _ (fq65 _ _ (eq63)))))))))))) (.cons (.str _) (.cons (dp_same ((same_tr fq1 (same_tr s5 (same_tr fq7 (same_tr s11 (same_tr fq13 (same_tr fq15 (same_tr s19 (same_tr fq21 (same_tr fq23 (same_tr s27 (same_tr fq29 (same_tr fq31 (same_tr fq33 (same_tr fq35 (same_tr s39 (same_tr fq41 (same_tr fq43 (same_tr fq45 (same_tr s49 (same_tr fq51 (same_tr s55 (same_tr fq57 (same_tr fq59 (same_tr fq61 (same_tr fq63 (same_tr fq65 (same_tr fq67 (same_tr fq69 (same_tr fq71 (same_tr fq73 (same_tr fq75 (same_tr fq77 (same_tr s81 (same_tr fq93 fq95))))))))))))))))))))))))))))))))))) _ _ hk) .nil))) .nil)) (.cons (.tup (SqT.of (fq95 _ _ (fq93 _ _ (s81 _ _ (fq77 _ _ (fq75 _ _ (fq73 _ _ (fq71 _ _ (fq69 _ _ (eq67)))))))))) .nil) (.cons (.tup (SqT.of (fq95 _ _ (fq93 _ _ (s81 _ _ (fq77 _ _ (fq75 _ _ (fq73 _ _ (fq71 _ _ (eq69))))))))) (.cons (dp_same ((same_tr fq1 (same_tr s5 (same_tr fq7 (same_tr s11 (same_tr fq13 (same_tr fq15 (same_tr s19 (same_tr fq21 (same_tr fq23 (same_tr s27 (same_tr fq29 (same_tr fq31 (same_tr fq33 (same_tr fq35 (same_tr s39 (same_tr fq41 (same_tr fq43 (same_tr fq45 (same_tr s49 (same_tr fq51 (same_tr s55 (same_tr fq57 (same_tr fq59 (same_tr fq61 (same_tr fq63 (same_tr fq65 (same_tr fq67 (same_tr fq69 (same_tr fq71 (same_tr fq73 (same_tr fq75 (same_tr fq77 (same_tr s81 (same_tr fq93 fq95))))))))))))))))))))))))))))))))))) _ _ hk) .nil)) (.cons .non (.cons (.tup (SqT.of (fq95 _ _ (fq93 _ _ (s81 _ _ (fq77 _ _ (fq75 _ _ (fq73 _ _ (eq71)))))))) .nil) (.cons (.tup (SqT.of (fq95 _ _ (fq93 _ _ (s81 _ _ (fq77 _ _ (fq75 _ _ (eq73))))))) .nil) .nil)))))))) (.cons (by rw [ein]; exact .non) .nil), .inl ⟨SqL.of eq95, sh, rfl, ?_⟩⟩
        have ee : decide (V.str (PyData.shown (.list [.list (toldD dk), inH dk])) = V.str (PyData.shown (.list [.list (toldD dk), inH dk]))) = true := decide_eq_true rfl
        rw [ee]
        exact k _ ((same_tr fq1 (same_tr s5 (same_tr fq7 (same_tr s11 (same_tr fq13 (same_tr fq15 (same_tr s19 (same_tr fq21 (same_tr fq23 (same_tr s27 (same_tr fq29 (same_tr fq31 (same_tr fq33 (same_tr fq35 (same_tr s39 (same_tr fq41 (same_tr fq43 (same_tr fq45 (same_tr s49 (same_tr fq51 (same_tr s55 (same_tr fq57 (same_tr fq59 (same_tr fq61 (same_tr fq63 (same_tr fq65 (same_tr fq67 (same_tr fq69 (same_tr fq71 (same_tr fq73 (same_tr fq75 (same_tr fq77 (same_tr s81 (same_tr fq93 fq95)))))))))))))))))))))))))))))))))))
end
end K12

set_option Elab.async false
set_option linter.all false
set_option maxRecDepth 100000
set_option maxHeartbeats 4000000
/-! What a deck keeps; the things of each kind. -/
namespace K12
open PySem PySem.Spec PyProof.Rows L2 Mine TL SkE StX ClX
theorem sqT_keep {K : PySem.W.Frag} {H H' : Hp} {dk dl a : Addr} {t : Int} {xs : List V} (D : DeckAt H dk dl t) (k : Keep dk dl H H') (h : SqT K H a xs) : SqT K H' a xs := k.kt D a xs h
theorem ks_keep {K : PySem.W.Frag} {H H' : Hp} {dk dl kk : Addr} {t : Int} {ps : List Addr} {ks : List (Str × Int)} (D : DeckAt H dk dl t) (k : Keep dk dl H H') (h : KindsAt K H kk ps ks) : KindsAt K H' kk ps ks := by
  refine ⟨?_, paired_mono (fun _ _ => sqT_keep D k) h.each⟩
  rcases h.at_ with ⟨o, e, d⟩ | ⟨h, r⟩
  · obtain ⟨⟨_, h1, _⟩, ⟨_, h2, _⟩⟩ := D
    exact .inl ⟨o, k _ _ (ne_of e h1 (by intro z; cases z)) (ne_of e h2 (by intro z; cases z)) e, d⟩
  · exact .inr ⟨sqT_keep D k h, r⟩
theorem os_keep {K : PySem.W.Frag} {H H' : Hp} {dk dl oo : Addr} {t : Int} {as : List Addr} {os : List Opn} (D : DeckAt H dk dl t) (k : Keep dk dl H H') (h : OpnsAt K H oo as os) : OpnsAt K H' oo as os :=
  ⟨sqT_keep D k h.at_, paired_mono (fun _ _ ⟨b, bs, h1, h2, h3⟩ => ⟨b, bs, sqT_keep D k h1, sqT_keep D k h2, paired_mono (fun _ _ => sqT_keep D k) h3⟩) h.each⟩
theorem deck_same {H H' : Hp} {dk dl : Addr} {t : Int} (D : DeckAt H dk dl t) (k : Same H H') : DeckAt H' dk dl t := by
  obtain ⟨⟨m, x1, y1, z1⟩, ⟨cs, x2, y2⟩⟩ := D
  exact ⟨⟨m, k _ _ x1, y1, z1⟩, ⟨cs, k _ _ x2, y2⟩⟩
theorem same_keep {H H' : Hp} {dk dl : Addr} (k : Same H H') : Keep dk dl H H' := fun _ _ _ _ z => k _ _ z
theorem BkAt.keep {K : PySem.W.Frag} {C : Addr} {H H' : Hp} {dk dl x : Addr} {t : Int} {ks : List (Str × Int)} {os : List Opn} (b : BkAt K C H x ks os) (D : DeckAt H dk dl t) (k : Keep dk dl H H') : BkAt K C H' x ks os := by
  obtain ⟨dx, kk, oo, ps, as, h1, h2, h3⟩ := b.ex
  refine ⟨⟨dx, kk, oo, ps, as, ?_, ks_keep D k h2, os_keep D k h3⟩, b.kok, b.ook⟩
  obtain ⟨⟨_, e1, _⟩, ⟨_, e2, _⟩⟩ := D
  exact k _ _ (ne_of h1 e1 (by intro z; cases z)) (ne_of h1 e2 (by intro z; cases z)) h1
theorem keep_off {dk dl p : Addr} {H G : Hp} {o : HO} (k : Keep dk dl H G) (np : H p = none) : Keep dk dl H (upd G p o) := fun c u h1 h2 e => (upd_ne (ne_of_none e np)).trans (k c u h1 h2 e)
theorem ks_dp {K : PySem.W.Frag} {H : Hp} {kk : Addr} {ps : List Addr} {ks : List (Str × Int)} (h : KindsAt K H kk ps ks) : Dp K H (.ref kk) (.tuple (ks.map kD)) := .tup h.at_.sq (kd_dp h.each)
theorem os_dp {K : PySem.W.Frag} {H : Hp} {oo : Addr} {as : List Addr} {os : List Opn} (h : OpnsAt K H oo as os) : Dp K H (.ref oo) (.tuple (os.map opD)) := .tup h.at_ (ops_dp h.each)
/-- a book made, at its place -/
theorem made_book {K : PySem.W.Frag} {C kk oo x dx : Addr} {ps as : List Addr} {ks : List (Str × Int)} {os : List Opn} {H : Hp} {R : Hp → Prop} {E : XK} (hk : KindsAt K H kk ps ks) (kok : KsOk ks) (ho : OpnsAt K H oo as os) (ook : OsOk ks os) (hx : H x = none) (hdx : H dx = none) (ne : dx ≠ x)
    (k : ∀ H', Same H H' → BkAt K C H' x ks os → R H') : spInit K C (.ref x :: ([.ref kk, .ref oo] ++ [])) (upd (upd H dx (.own x)) x (.ins C dx [])) (fun v H2 => v = .non ∧ R H2) E := by
  have s1 : Same H (upd (upd H dx (.own x)) x (.ins C dx [])) := fun b o e => (upd_ne (ne_of_none e hx)).trans ((upd_ne (ne_of_none e hdx)).trans e)
  refine ⟨x, dx, kk, oo, ps, as, ks, os, rfl, upd_same, hk.same s1, kok, ho.same s1, ook, fun H' keep hx' => ⟨rfl, ?_⟩⟩
  have s2 : Same H H' := fun b o e => keep b o (ne_of_none e hx) (s1 _ _ e)
  exact k H' s2 ⟨⟨dx, kk, oo, ps, as, hx', hk.same s2, ho.same s2⟩, kok, ook⟩
abbrev okS' : Prop := True
def rLof (K : PySem.W.Frag) : List V → Hp → VK → Prop := fun xs H Q => ∃ p ys, xs = [.ref p] ∧ (SqL K H p ys ∨ SqT K H p ys) ∧ ∀ l, H l = none → Q (.ref l) (upd H l (.lst ys))
theorem std_num : ∀ p ∈ stdKs, p.2 = 1 ∨ p.2 = 2 := by decide +kernel
abbrev LFS : List Str := [lw "a", lw "b", lw "K", lw "N"]
theorem lfs : ∀ x ∈ LFS, x ∈ LV := by decide +kernel
theorem made_ok {c : Str} {ps : List PyData} (hc : (c, (ps.length : Int)) ∈ stdKs) (c8 : c ∈ W8) (ne : ps ≠ []) (h : ∀ p ∈ ps, OkT stdKs p) : OkT stdKs (.tuple (.str c :: ps)) :=
  ⟨drawn_tup c8 ne fun p hp => (h p hp).dr, fitK_tup.mpr ⟨hc, fun p hp => (h p hp).fit⟩⟩
abbrev lotD (x k : PyData) : List PyData := [.tuple [.str (lw "half"), x], .tuple [.str (lw "lock"), x, k], .tuple [.str (lw "mark"), k], .tuple [.str (lw "pair"), k, x], .tuple [.str (lw "seal"), x, k], .tuple [.str (lw "sign"), k, k]]
theorem lot_ok {x k : PyData} (hx : OkT stdKs x) (hk : OkT stdKs k) : ∀ d ∈ lotD x k, OkT stdKs d := by
  have one : ∀ {p : PyData}, OkT stdKs p → ∀ q ∈ [p], OkT stdKs q := fun h q hq => by rw [List.mem_singleton.mp hq]; exact h
  have two : ∀ {p r : PyData}, OkT stdKs p → OkT stdKs r → ∀ q ∈ [p, r], OkT stdKs q := fun h h' q hq => by
    rcases List.mem_cons.mp hq with rfl | hq
    · exact h
    · rw [List.mem_singleton.mp hq]
      exact h'
  intro d hd
  simp only [lotD, List.mem_cons, List.not_mem_nil, or_false] at hd
  rcases hd with rfl | rfl | rfl | rfl | rfl | rfl
  · exact made_ok (by show (lw "half", (1 : Int)) ∈ stdKs; decide +kernel) (by decide +kernel) (List.cons_ne_nil _ _) (one hx)
  · exact made_ok (by show (lw "lock", (2 : Int)) ∈ stdKs; decide +kernel) (by decide +kernel) (List.cons_ne_nil _ _) (two hx hk)
  · exact made_ok (by show (lw "mark", (1 : Int)) ∈ stdKs; decide +kernel) (by decide +kernel) (List.cons_ne_nil _ _) (one hk)
  · exact made_ok (by show (lw "pair", (2 : Int)) ∈ stdKs; decide +kernel) (by decide +kernel) (List.cons_ne_nil _ _) (two hk hx)
  · exact made_ok (by show (lw "seal", (2 : Int)) ∈ stdKs; decide +kernel) (by decide +kernel) (List.cons_ne_nil _ _) (two hx hk)
  · exact made_ok (by show (lw "sign", (2 : Int)) ∈ stdKs; decide +kernel) (by decide +kernel) (List.cons_ne_nil _ _) (two hk hk)
theorem lot_sz {x k : PyData} (sx : sz x ≤ 6) (sk : sz k ≤ 6) : ∀ d ∈ lotD x k, sz d ≤ 13 := by
  intro d hd
  simp only [lotD, List.mem_cons, List.not_mem_nil, or_false] at hd
  rcases hd with rfl | rfl | rfl | rfl | rfl | rfl <;> (rw [sz_tup]; simp only [List.map_cons, List.map_nil, List.sum_cons, List.sum_nil]; omega)
theorem lot_dep {x k : PyData} (sx : PyData.depth x ≤ 5) (sk : PyData.depth k ≤ 5) : ∀ d ∈ lotD x k, PyData.depth d ≤ 6 := by
  intro d hd
  simp only [lotD, List.mem_cons, List.not_mem_nil, or_false] at hd
  rcases hd with rfl | rfl | rfl | rfl | rfl | rfl <;> (simp only [PyData.depth, PyData.depthAll]; omega)
theorem lot_tup {x k : PyData} : ∀ d ∈ lotD x k, ∃ c ps, d = .tuple (.str c :: ps) ∧ ps ≠ [] := by
  intro d hd
  simp only [lotD, List.mem_cons, List.not_mem_nil, or_false] at hd
  rcases hd with rfl | rfl | rfl | rfl | rfl | rfl <;> exact ⟨_, _, rfl, List.cons_ne_nil _ _⟩
theorem lot_row {x k : PyData} (hx : OkT stdKs x) (hk : OkT stdKs k) (sx : sz x ≤ 6) (sk : sz k ≤ 6) : OkR stdKs (lotD x k) ∧ ((lotD x k).flatMap lot).length ≤ 100 := by
  have h : ((lotD x k).flatMap lot).length ≤ 78 := by
    rw [List.length_flatMap]
    have e := map_sum_le (f := fun d => (lot d).length) (k := 13) (ds := lotD x k) (lot_sz sx sk)
    exact e
  exact ⟨⟨lot_ok hx hk, by omega⟩, by omega⟩
theorem std_show : Shows sizeLine 30 (.list [.tuple (stdKs.map kD), .tuple (stdOs.map opD)]) := ⟨by decide +kernel, by rw [sizeLine_eq]; decide +kernel, by decide +kernel⟩
theorem lays_of {ds : List PyData} (h : ∀ d ∈ ds, drawn d = true) (dep : ∀ d ∈ ds, PyData.depth d ≤ 6) : PyData.canLay0 (.list ds) = true ∧ SeqAt.shaped (.list ds) = true := by
  obtain ⟨a, b⟩ := all_lay (n := 6) fun d hd => ⟨drawn_lay _ d (Nat.le_refl _) (h d hd), dep d hd⟩
  exact ⟨by simp only [PyData.canLay0]; exact a, shaped_of a (by omega)⟩
end K12

set_option Elab.async false
set_option linter.all false
set_option maxRecDepth 100000
set_option maxHeartbeats 4000000
/-! The law. -/
namespace K12
open PySem PySem.Spec PyProof.Rows L2 Mine TL SkE StX ClX
abbrev sLaw : Stmt := top 58
abbrev nLaw : List Str := ["_law_script", "_law_deck_here", "_law_makes", "_law_taking", "_law_code", "_law_turn", "_law_x", "_law_k", "_law_lot", "_law_near", "_law_go", "_law_it", "_law_line_now"]
abbrev pT : List Str := ["_law_deck_here", "_law_makes", "_law_leaves", "_law_top", "_law_deep"]
def spLaw (K : PySem.W.Frag) : Sp := fun vs H Q _ => ∃ (a : Addr) (ns : List Int), vs = [.ref a] ∧ SqL K H a (ns.map V.int) ∧ ns.length ≤ 63 ∧ ∀ H', Q (.bl true) H'
structure TxtL (K : PySem.W.Frag) (mg : Str → Option Value) (CB CR fK fKP fS fH fNR fM fRT fBE fRE fRS : Addr) : Prop where
  clB : Cls K CB
  clR : Cls K CR
  bnK : NoAttr K CB "kinds"
  bnO : NoAttr K CB "openings"
  mI : Meth K CB "is_thing" fM
  mT : Meth K CB "read_thing" fRT
  range : mg "range" = none
  repr : mg "repr" = none
  str : mg "str" = none
  list : mg "list" = none
  gB : mg "Book" = some (.ref CB)
  gR : mg "Row" = some (.ref CR)
  k : Has K mg "_law_deck" fK
  kp : Has K mg "_law_known_parts" fKP
  s : Has K mg "standard_book" fS
  h : Has K mg "_law_thing" fH
  nr : Has K mg "_law_needed_right" fNR
  aB : PySem.W.findIn K (.ref CB) "__eq__" = some (some (.ref fBE))
  iB : PySem.W.isFn K (.ref fBE) = true
  aE : PySem.W.findIn K (.ref CR) "__eq__" = some (some (.ref fRE))
  iE : PySem.W.isFn K (.ref fRE) = true
  aS : PySem.W.findIn K (.ref CR) "__str__" = some (some (.ref fRS))
  iS : PySem.W.isFn K (.ref fRS) = true
theorem cut_last {x : V} {zs : List V} (h : zs.length = 1 ∨ zs.length = 2) : cutV (x :: zs) none (some (-1)) = x :: zs.dropLast := by
  rcases h with h | h
  · match zs, h with
    | [a], _ => rfl
  · match zs, h with
    | [a, b], _ => rfl
theorem not_whole {x : V} {zs : List V} (h : zs.length = 1 ∨ zs.length = 2) : ¬ (HT.sIx (x :: zs).length 0 none = 0 ∧ HT.sIx (x :: zs).length (x :: zs).length (some (-1)) = (x :: zs).length) := by
  rcases h with h | h
  · rw [List.length_cons, h]
    decide
  · rw [List.length_cons, h]
    decide
section
variable {P : Program} {w : World} {K : PySem.W.Frag} {mg : Str → Option Value} {base : Heap}
theorem scLaw : FnScope nLaw ["_law_script"] (defScope sLaw) := ⟨rfl, rfl, rfl, by decide +kernel, rfl, by decide +kernel, by decide +kernel⟩
theorem ok_law {f CB CR fK fKP fS fH fNR fM fRT fBE fRE fRS fB fI fR pR kk0 oo0 : Addr} {ps0 as0 : List Addr} {mc : Value} {fd dK dKP dS dH dNR dM dRT dBE dRE dRS dB dI dR : FuncData} (F : Fun K "law" "law" sLaw f fd) (T : TxtL K mg CB CR fK fKP fS fH fNR fM fRT fBE fRE fRS) (S : Std K kk0 oo0 ps0 as0)
    (GK : FnOk P w K mg base CX0 1 fK dK ["_law_script"] (spDeck K)) (bK : Binds K dK ["_law_script"] [])
    (GKP : FnOk P w K mg base CX0 1 fKP dKP [] (spKP K)) (bKP : Binds K dKP [] [])
    (GS : FnOk P w K mg base CX0 8 fS dS [] (spStd CB kk0 oo0)) (bS : Binds K dS [] [])
    (GH : FnOk P w K mg base CX0 8 fH dH pT (spThing K 5)) (bH : Binds K dH pT [])
    (GNR : FnG P w K mg base 4 fNR dNR ["_law_code", "_law_x", "_law_k"] (spNR K CB)) (bNR : Binds K dNR ["_law_code", "_law_x", "_law_k"] [])
    (GM : FnOk P w K mg base CX0 3 fM dM ["self", "thing"] (spIsTh K CB)) (GMN : FnOk P w K mg base CX0 3 fM dM ["self", "thing"] (spIsThN K CB)) (bM : Binds K dM ["self", "thing"] [])
    (GRT : FnOk P w K mg base CX0 5 fRT dRT ["self", "text"] (spRT K CB)) (bRT : Binds K dRT ["self", "text"] [])
    (GBE : FnOk P w K mg base CX0 1 fBE dBE ["self", "other"] (spEq (Alike K CB))) (bBE : Binds K dBE ["self", "other"] [])
    (GRE : FnOk P w K mg base CX0 6 fRE dRE ["self", "other"] (spEq (AlikeR K CB CR))) (bRE : Binds K dRE ["self", "other"] [])
    (GRS : FnOk P w K mg base CX0 3 fRS dRS ["self"] (spRStr K CB CR)) (bRS : Binds K dRS ["self"] [])
    (MB : Mk K CB fB) (GB : FnOk P w K mg base CX0 6 fB dB ["self", "kinds", "openings"] (spInit K CB)) (bB : Binds K dB ["self", "kinds", "openings"] [])
    (MR : Mk K CR fI) (GI : FnOk P w K mg base CX0 4 fI dI ["self", "book", "things"] (spRInit K CB CR)) (bI : Binds K dI ["self", "book", "things"] [])
    (cr : CRead K CR mc) (cm : CMet K CR mc "read" pR fR) (GR : FnOk P w K mg base CX0 6 fR dR ["cls", "book", "text"] (spRd K CB CR)) (bR : Binds K dR ["cls", "book", "text"] []) :
    FnG P w K mg base 12 f fd ["_law_script"] (spLaw K) := by
  refine fnG_of F scLaw (fun vs H Q E h => ?_) (fun cdv A outer s H vs Q E hr hgd h => ?_)
  · obtain ⟨a, ns, rfl, _⟩ := h
    rfl
  · obtain ⟨a, ns, rfl, hS, hlen, k⟩ := h
    have hr1 : Room 1 _ := hr.mono (by decide)
    have hr3 : Room 3 _ := hr.mono (by decide)
    have hr4 : Room 4 _ := hr.mono (by decide)
    have hr5 : Room 5 _ := hr.mono (by decide)
    have hr6 : Room 6 _ := hr.mono (by decide)
    have hr7 : Room 7 _ := hr.mono (by decide)
    have hr8 : Room 8 _ := hr.mono (by decide)
    have hun : (A.deeper (envOfC "law" (defScope sLaw) s.heap.objs.size f cdv)).units + 30 + 20 < cLine := by
      have := hr.un
      omega
    have line : sizeLine = 16777216 := sizeLine_eq
    refine ⟨_, pss_cons (ps_set (i := 1) scLaw.nd rfl (.inr rfl) (pe_call GK hr1 rfl T.k.g T.k.k bK .nil pass0 (pa_cons (pv 0) pa_nil)))
      (pss_cons (ps_asg (pe_call0 GKP hr1 rfl T.kp.g T.kp.k bKP .nil pass0) (pg_tup rfl (pgs_cons (pg_name (i := 2) scLaw.nd rfl (.inr rfl)) (pgs_cons (pg_name (i := 3) scLaw.nd rfl (.inl rfl)) pgs_nil))))
      (pss_cons (ps_set (i := 4) scLaw.nd rfl (.inr rfl) (pe_call0 GS hr8 rfl T.s.g T.s.k bS .nil pass0))
      (pss_cons (ps_if (PW.pt (pw_or (pt_cmpR op_ne (pe_callB (call_reprQ (m := 30) hgd hun) (by rfl) T.repr (by decide +kernel) (pa_cons (pe_lst (pa_cons (pe_fld (pv 4) rfl) (pa_cons (pe_fld (pv 4) rfl) pa_nil))) pa_nil)) (pe_callB (call_reprQ (m := 30) hgd hun) (by rfl) T.repr (by decide +kernel) (pa_cons (pe_lst (pa_cons (pv 2) (pa_cons (pv 3) pa_nil))) pa_nil)) (nomark _))
          (pw_or1 (pt_not (pt_cmpR (op_eqG (rcG_ins GBE T.aB T.iB bBE pass0) hr1) (pv 4) (pe_make MB GB hr7 rfl T.gB bB .nil pass0 (pa_cons (pv 2) (pa_cons (pv 3) pa_nil))) (nomark _)))))) (pss_one (ps_ret pe_bl)) pss_nil)
      (pss_cons (ps_for PassesOwn.never rfl (pi_range1 rfl T.range (pa_cons pe_int pa_nil)) (pg_name (i := 5) scLaw.nd rfl (.inl rfl))
        (pss_cons (ps_asg (pe_lc (own := [("_law_go", 10)]) (g := gName 10) (tt := tYes) rfl scLaw.nd (pi_range1 rfl T.range (pa_cons pe_int pa_nil))
            (blkOk_by (own := [("_law_go", 10)]) (N := nLaw) (sc := defScope sLaw) (by decide +kernel))
            (fun _ _ _ _ _ => pg_name (i := 10) scLaw.nd rfl (Or.inl rfl)) (fun _ _ _ _ _ => pts_nil)
            (fun _ _ _ _ _ => pe_call GH hr8 rfl T.h.g T.h.k bH .nil pass0 (pa_cons (pv 1) (pa_cons (pv 2) (pa_cons (pe_lst (pa_cons pe_str (pa_cons pe_str (pa_cons pe_str (pa_cons pe_str pa_nil))))) (pa_cons pe_int (pa_cons pe_int pa_nil)))))))
            (pg_lst rfl (pgs_cons (pg_name (i := 6) scLaw.nd rfl (.inl rfl)) (pgs_cons (pg_name (i := 7) scLaw.nd rfl (.inl rfl)) pgs_nil))))
        (pss_cons (ps_if (pt_not (pt_val (pe_callG GNR hr4 hgd rfl T.nr.g T.nr.k bNR (pa_cons (pv 4) (pa_cons (pv 6) (pa_cons (pv 7) pa_nil)))))) (pss_one (ps_ret pe_bl)) pss_nil)
        (pss_cons (ps_set (i := 8) scLaw.nd rfl (.inl rfl) (pe_tup (pa_cons (pe_tup (pa_cons pe_str (pa_cons (pv 6) pa_nil))) (pa_cons (pe_tup (pa_cons pe_str (pa_cons (pv 6) (pa_cons (pv 7) pa_nil)))) (pa_cons (pe_tup (pa_cons pe_str (pa_cons (pv 7) pa_nil))) (pa_cons (pe_tup (pa_cons pe_str (pa_cons (pv 7) (pa_cons (pv 6) pa_nil)))) (pa_cons (pe_tup (pa_cons pe_str (pa_cons (pv 6) (pa_cons (pv 7) pa_nil)))) (pa_cons (pe_tup (pa_cons pe_str (pa_cons (pv 7) (pa_cons (pv 7) pa_nil)))) pa_nil))))))))
        (pss_cons (ps_if (pt_cmpR (op_neD hr.units) (pe_lc (own := [("_law_it", 11)]) (g := gName 11) rfl scLaw.nd (pi_tup (pv 8))
            (blkOk_by (own := [("_law_it", 11)]) (N := nLaw) (sc := defScope sLaw) (by decide +kernel))
            (fun _ _ _ _ _ => pg_name (i := 11) scLaw.nd rfl (Or.inl rfl))
            (fun _ _ _ _ _ => pts_one (pt_not (pt_val (pe_meth (pv 4) T.clB T.mI GM hr3 bM .nil pass0 (pa_cons (pv 11) pa_nil)))))
            (fun _ _ _ _ _ => pv 11)) (pe_lst pa_nil) (nomark _)) (pss_one (ps_ret pe_bl)) pss_nil)
        (pss_cons (ps_if (pt_cmpR (op_neD hr.units) (pe_lc (own := [("_law_it", 11)]) (g := gName 11) rfl scLaw.nd (pi_tup (pv 8))
            (blkOk_by (own := [("_law_it", 11)]) (N := nLaw) (sc := defScope sLaw) (by decide +kernel))
            (fun _ _ _ _ _ => pg_name (i := 11) scLaw.nd rfl (Or.inl rfl))
            (fun _ _ _ _ _ => pts_one (PW.pt (pw_or (pt_val (pe_meth (pv 4) T.clB T.mI GMN hr3 bM .nil pass0 (pa_cons (pe_op (show OpR _ _ (rCatA K) from op_catA) (pv 11) (pe_tup (pa_cons pe_str pa_nil))) pa_nil)))
              (pw_or (pt_val (pe_meth (pv 4) T.clB T.mI GMN hr3 bM .nil pass0 (pa_cons (pe_slice (show SlR _ (rSlT K) from sl_tup) (pv 11) po_none (po_some (pe_un un_neg pe_int))) pa_nil)))
              (pw_or1 (pt_val (pe_meth (pv 4) T.clB T.mI GMN hr3 bM .nil pass0 (pa_cons (pe_callTy (show CallR _ (.type "list") (rLof K) from call_list_of) (by rfl) T.list (by decide +kernel) (pa_cons (pv 11) pa_nil)) pa_nil))))))))
            (fun _ _ _ _ _ => pv 11)) (pe_lst pa_nil) (nomark _)) (pss_one (ps_ret pe_bl)) pss_nil)
        (pss_cons (ps_set (i := 9) scLaw.nd rfl (.inl rfl) (pe_make MR GI hr5 rfl T.gR bI .nil pass0 (pa_cons (pv 4) (pa_cons (pv 8) pa_nil))))
        (pss_cons (ps_if (PW.pt (pw_or (pt_not (pt_cmpR (op_eqG (rcG_ins GRE T.aE T.iE bRE pass0) hr6) (pe_cmeth (pe_glob (v := .ref CR) rfl T.gR rfl) cr cm (GR.raw bR .nil) hr6 pass0 (pa_cons (pe_call0 GS hr8 rfl T.s.g T.s.k bS .nil pass0) (pa_cons (pe_callTy (call_strOwn GRS hr5 T.aS T.iS bRS) (by rfl) T.str (by decide +kernel) (pa_cons (pv 9) pa_nil)) pa_nil))) (pv 9) (nomark _)))
            (pw_or1 (pt_not (pt_cmpR (op_eqG (rcG_ins GBE T.aB T.iB bBE pass0) hr1) (pe_call0 GS hr8 rfl T.s.g T.s.k bS .nil pass0) (pv 4) (nomark _)))))) (pss_one (ps_ret pe_bl)) pss_nil)
        (pss_one (ps_if (pt_cmpR (op_neD hr.units) (pe_lc (own := [("_law_line_now", 12)]) (g := gName 12) (tt := tYes) rfl scLaw.nd (pi_list (pe_slice sl_list (pe_m1 PySem.F.slot_str_split PySem.F.type_str_split mt_split (pe_callTy (call_strOwn GRS hr5 T.aS T.iS bRS) (by rfl) T.str (by decide +kernel) (pa_cons (pv 9) pa_nil)) pe_str) (po_some pe_int) po_none))
            (blkOk_by (own := [("_law_line_now", 12)]) (N := nLaw) (sc := defScope sLaw) (by decide +kernel))
            (fun _ _ _ _ _ => pg_name (i := 12) scLaw.nd rfl (Or.inl rfl)) (fun _ _ _ _ _ => pts_nil)
            (fun _ _ _ _ _ => pe_meth (pv 4) T.clB T.mT GRT hr5 bRT .nil pass0 (pa_cons (pv 12) pa_nil))) (pe_callTy (call_list_of) (by rfl) T.list (by decide +kernel) (pa_cons (pv 8) pa_nil)) (nomark _)) (pss_one (ps_ret pe_bl)) pss_nil))))))))))
      (pss_one (ps_ret (pe_and (pe_meth (pv 4) T.clB T.mI GM hr3 bM .nil pass0 (pa_cons pe_str pa_nil)) (pe_and (pe_not (pe_meth (pv 4) T.clB T.mI GMN hr3 bM .nil pass0 (pa_cons pe_str pa_nil))) (pe_one (pe_not (pe_meth (pv 4) T.clB T.mI GMN hr3 bM .nil pass0 (pa_cons (pe_tup (pa_cons pe_str (pa_cons pe_str pa_nil))) pa_nil)))))))))))), ?_⟩
    have l2 : 2 ≤ sizeLine := by omega
    refine ⟨_, rfl, a, ns, rfl, hS, hlen, fun dk dl H1 S1 _ _ D1 => ?_⟩
    refine ⟨rfl, fun r mk tk ms ps as H2 s2 er M2 kA2 oA2 => ?_⟩
    refine ⟨r, _, rfl, er, rfl, _, _, rfl, _, _, rfl, rfl, ?_⟩
    refine ⟨rfl, fun c cdx H3 s3 hc => ?_⟩
    have B3 : BkAt K CB H3 c stdKs stdOs := ⟨⟨cdx, kk0, oo0, ps0, as0, hc, S.ks _, S.os _⟩, std_ks, std_os⟩
    refine ⟨_, rfl, c, CB, cdx, _, _, rfl, hc, T.clB, T.bnK, rfl, _, rfl, c, CB, cdx, _, _, rfl, hc, T.clB, T.bnO, rfl, l2, fun r1 hr1 => ?_⟩
    have f1 : Same H3 (upd H3 r1 (.lst [.ref kk0, .ref oo0])) := same_new same_rfl hr1
    refine ⟨r1, _, [.tuple (stdKs.map kD), .tuple (stdOs.map opD)], rfl, .cons (ks_dp (S.ks _)) (.cons (os_dp (S.os _)) .nil), .inl ⟨SqL.of upd_same, std_show, ?_⟩⟩
    generalize upd H3 r1 (.lst [.ref kk0, .ref oo0]) = H4 at f1
    refine ⟨_, rfl, _, rfl, l2, fun r2 hr2 => ?_⟩
    have f2 : Same H3 (upd H4 r2 (.lst [.ref mk, .ref tk])) := same_new f1 hr2
    refine ⟨r2, _, [.tuple (stdKs.map kD), .tuple (stdOs.map opD)], rfl, .cons (ks_dp (kA2.same (same_tr s3 f2))) (.cons (os_dp (oA2.same (same_tr s3 f2))) .nil), .inl ⟨SqL.of upd_same, std_show, ?_⟩⟩
    refine ⟨rfl, _, rfl, ite2 (fun z => ?_) (fun _ => ?_)⟩
    · simp at z
    show tNot _ _ (upd H4 r2 (.lst [.ref mk, .ref tk])) _
    generalize upd H4 r2 (.lst [.ref mk, .ref tk]) = H5 at f2
    refine ⟨_, rfl, _, rfl, _, rfl, fun x dx nx ndx ne => made_book (E := E0) (kA2.same (same_tr s3 f2)) std_ks (oA2.same (same_tr s3 f2)) std_os nx ndx ne fun H6 s6 B6 => ?_⟩
    obtain ⟨dx6, _, _, _, _, hx6, _⟩ := id B6.ex
    have s36 := same_tr f2 s6
    refine ⟨⟨c, x, _, _, _, _, rfl, rfl, s36 _ _ hc, hx6, stdKs, stdOs, B3.same s36, B6⟩, fun H7 s7 => ⟨_, rfl, ite2 (fun z => absurd z (by decide)) (fun _ => ?_)⟩⟩
    have K0 : Keep dk dl H7 H7 := Keep.refl
    have s37 := same_tr s36 s7
    have D7 := deck_same D1 (same_tr s2 (same_tr s3 s37))
    have B7 := B3.same s37
    have M7 : MakesAt H7 mk ms stdKs := M2.keep (deck_same D1 s2) (same_keep (same_tr s3 s37))
    clear kA2 oA2 B6 hx6 M2 er
    refine ⟨_, rfl, by decide, by decide, ?_⟩
    refine for_range (lo := 0) (n := 6) (fun n σ H' => ∃ (t : Int) (o5 o6 o7 o8 o9 o10 o11 o12 : Option V), σ = [some (.ref a), some (.ref dk), some (.ref mk), some (.ref tk), some (.ref c), o5, o6, o7, o8, o9, o10, o11, o12] ∧ DeckAt H' dk dl t ∧ 0 ≤ t ∧ t ≤ (n : Int) * 100 ∧ Keep dk dl H7 H')
      ⟨0, none, none, none, none, none, none, none, none, rfl, D7, by omega, by omega, K0⟩ ?_ ?_
    · rintro n σ H8 hn ⟨t, o5, o6, o7, o8, o9, o10, o11, o12, rfl, D8, ta, tb, K8⟩
      have nle : (n : Int) ≤ 5 := by omega
      refine ⟨_, rfl, by decide, by decide, fun D hD => ?_⟩
      have Dd := D8.new (o := .lst []) hD
      have Do := D8.off hD
      have M8 := M7.keep D7 K8
      refine lc_range (lo := 0) (n := 2) (fun i H' => ∃ (vs : List V) (ds : List PyData) (t' : Int), H' D = some (.lst vs) ∧ vs.length = i ∧ DpAll K H' vs ds ∧ (∀ d ∈ ds, OkT stdKs d ∧ sz d ≤ 6 ∧ PyData.depth d ≤ 5) ∧ DeckAt H' dk dl t' ∧ t ≤ t' ∧ t' ≤ t + (i : Int) * 30 ∧ Keep dk dl H8 H')
        ⟨[], [], t, upd_same, rfl, .nil, (fun _ z => (List.not_mem_nil z).elim), Dd, by omega, by omega, Keep.refl.new hD⟩ ?_ ?_
      · rintro i H9 hi ⟨vs, ds, t', eD, vl, dv, okd, D9, tc, td, K9⟩
        refine ⟨rfl, ?_⟩
        refine yes_if ?_
        refine ⟨_, rfl, _, rfl, (by show 4 ≤ sizeLine; omega), fun lf hlf => ?_⟩
        have D9' := D9.new (o := .lst (LFS.map V.str)) hlf
        obtain ⟨lfk, lfl⟩ := D9.off hlf
        have elf : upd H9 lf (.lst (LFS.map V.str)) lf = some (.lst (LFS.map V.str)) := upd_same
        have K99 : Keep dk dl H9 (upd H9 lf (.lst (LFS.map V.str))) := Keep.refl.new hlf
        have i1 : (i : Int) ≤ 1 := by omega
        refine ⟨dk, dl, mk, lf, t', 6, ms, stdKs, LFS, rfl, D9', M8.keep D8 (K9.trans K99), lfl, elf, lfs, by decide, by decide, by decide, by decide, by omega, by omega, fun v d t9 H10 D10 xa xb K10 dvv dr sd dd ft => ?_⟩
        have K910 := K99.trans K10
        have eD' := K910 _ _ Do.1 Do.2 eD
        have kt : KT K H9 H10 := K910.kt D9
        have kt2 : KT K H10 (upd H10 D (.lst (vs ++ [v]))) := kt_lst eD'
        have okT : OkT stdKs d := ⟨dr, ft⟩
        have ths : thingAll ds = true := thingAll_iff.mpr fun z hz => drawn_th (okd z hz).1.dr
        refine ⟨vs, eD', by omega, vs ++ [v], ds ++ [d], t9, upd_same, by rw [List.length_append, vl]; rfl, dps_app (ths_kt (kt.tr kt2) _ _ ths dv) (.cons (th_kt kt2 _ _ (drawn_th dr) dvv) .nil), fun z hz => ?_, D10.set Do.1 Do.2, by omega, by rw [Int.natCast_succ]; omega, keep_off (K9.trans K910) hD⟩
        rcases List.mem_append.mp hz with hz | hz
        · exact okd z hz
        · rw [List.mem_singleton.mp hz]
          exact ⟨okT, sd, dd⟩
      rintro H9 ⟨vs, ds, t', eD, vl, dv, okd, D9, tc, td, K9⟩
      obtain ⟨vx, vk, rfl⟩ : ∃ x y, vs = [x, y] := by
        match vs, vl with
        | [x, y], _ => exact ⟨x, y, rfl⟩
      obtain ⟨ex, ek, rfl, dvx, dvk⟩ : ∃ x y, ds = [x, y] ∧ Dp K H9 vx x ∧ Dp K H9 vk y := by
        cases dv with
        | cons a1 r1 =>
          cases r1 with
          | cons a2 r2 =>
            cases r2
            exact ⟨_, _, rfl, a1, a2⟩
      obtain ⟨okx, sx, px⟩ := okd ex (List.mem_cons_self ..)
      obtain ⟨okk, sk, pk⟩ := okd ek (List.mem_cons_of_mem _ (List.mem_cons_self ..))
      have B9 := B7.keep D7 (K8.trans K9)
      refine ⟨D, [vx, vk], rfl, SqL.of eD, rfl, _, _, rfl, _, _, rfl, rfl, ?_⟩
      refine ⟨_, rfl, _, rfl, _, rfl, c, vx, vk, ex, ek, rfl, B9, dvx, dvk, okx.dr, okk.dr, sx, sk, px, pk, fun H10 s10 => ⟨_, rfl, ite2 (fun z => absurd z (by decide)) (fun _ => ?_)⟩⟩
      refine ⟨_, rfl, l2, fun q1 g1 => ⟨_, rfl, _, rfl, (by show 3 ≤ sizeLine; omega), fun q2 g2 => ⟨_, rfl, l2, fun q3 g3 => ⟨_, rfl, _, rfl, (by show 3 ≤ sizeLine; omega), fun q4 g4 => ⟨_, rfl, _, rfl, (by show 3 ≤ sizeLine; omega), fun q5 g5 => ⟨_, rfl, _, rfl, (by show 3 ≤ sizeLine; omega), fun q6 g6 => ⟨(by show 6 ≤ sizeLine; omega), fun lt g7 => ?_⟩⟩⟩⟩⟩⟩⟩
      have f1 : Same H10 (upd H10 q1 (.tup [.str (lw "half"), vx])) := same_new same_rfl g1
      have e1 : upd H10 q1 (.tup [.str (lw "half"), vx]) q1 = some (.tup [.str (lw "half"), vx]) := upd_same
      generalize upd H10 q1 (.tup [.str (lw "half"), vx]) = L1 at f1 e1 g2 g3 g4 g5 g6 g7 ⊢
      have f2 : Same L1 (upd L1 q2 (.tup [.str (lw "lock"), vx, vk])) := same_new same_rfl g2
      have e2 : upd L1 q2 (.tup [.str (lw "lock"), vx, vk]) q2 = some (.tup [.str (lw "lock"), vx, vk]) := upd_same
      generalize upd L1 q2 (.tup [.str (lw "lock"), vx, vk]) = L2 at f2 e2 g3 g4 g5 g6 g7 ⊢
      have f3 : Same L2 (upd L2 q3 (.tup [.str (lw "mark"), vk])) := same_new same_rfl g3
      have e3 : upd L2 q3 (.tup [.str (lw "mark"), vk]) q3 = some (.tup [.str (lw "mark"), vk]) := upd_same
      generalize upd L2 q3 (.tup [.str (lw "mark"), vk]) = L3 at f3 e3 g4 g5 g6 g7 ⊢
      have f4 : Same L3 (upd L3 q4 (.tup [.str (lw "pair"), vk, vx])) := same_new same_rfl g4
      have e4 : upd L3 q4 (.tup [.str (lw "pair"), vk, vx]) q4 = some (.tup [.str (lw "pair"), vk, vx]) := upd_same
      generalize upd L3 q4 (.tup [.str (lw "pair"), vk, vx]) = L4 at f4 e4 g5 g6 g7 ⊢
      have f5 : Same L4 (upd L4 q5 (.tup [.str (lw "seal"), vx, vk])) := same_new same_rfl g5
      have e5 : upd L4 q5 (.tup [.str (lw "seal"), vx, vk]) q5 = some (.tup [.str (lw "seal"), vx, vk]) := upd_same
      generalize upd L4 q5 (.tup [.str (lw "seal"), vx, vk]) = L5 at f5 e5 g6 g7 ⊢
      have f6 : Same L5 (upd L5 q6 (.tup [.str (lw "sign"), vk, vk])) := same_new same_rfl g6
      have e6 : upd L5 q6 (.tup [.str (lw "sign"), vk, vk]) q6 = some (.tup [.str (lw "sign"), vk, vk]) := upd_same
      show Ends.nx _ _ (upd (upd L5 q6 (.tup [.str (lw "sign"), vk, vk])) lt (.tup [.ref q1, .ref q2, .ref q3, .ref q4, .ref q5, .ref q6]))
      generalize upd L5 q6 (.tup [.str (lw "sign"), vk, vk]) = L6 at f6 e6 g7 ⊢
      have f7 : Same L6 (upd L6 lt (.tup [.ref q1, .ref q2, .ref q3, .ref q4, .ref q5, .ref q6])) := same_new same_rfl g7
      have e7 : upd L6 lt (.tup [.ref q1, .ref q2, .ref q3, .ref q4, .ref q5, .ref q6]) lt = some (.tup [.ref q1, .ref q2, .ref q3, .ref q4, .ref q5, .ref q6]) := upd_same
      generalize upd L6 lt (.tup [.ref q1, .ref q2, .ref q3, .ref q4, .ref q5, .ref q6]) = L at f7 e7 ⊢
      have z0 : Same H10 L := (same_tr f1 (same_tr f2 (same_tr f3 (same_tr f4 (same_tr f5 (same_tr f6 f7))))))
      have z1 : Same L1 L := (same_tr f2 (same_tr f3 (same_tr f4 (same_tr f5 (same_tr f6 f7)))))
      have z2 : Same L2 L := (same_tr f3 (same_tr f4 (same_tr f5 (same_tr f6 f7))))
      have z3 : Same L3 L := (same_tr f4 (same_tr f5 (same_tr f6 f7)))
      have z4 : Same L4 L := (same_tr f5 (same_tr f6 f7))
      have z5 : Same L5 L := (same_tr f6 f7)
      have z6 : Same L6 L := f7
      have z9 : Same H9 L := same_tr s10 z0
      have lx := dp_same z9 _ _ dvx
      have lk := dp_same z9 _ _ dvk
      have dl6 : DpAll K L ([q1, q2, q3, q4, q5, q6].map V.ref) (lotD ex ek) := (.cons (.tup (SqT.of (z1 _ _ e1)) (.cons (.str _) (.cons lx .nil))) (.cons (.tup (SqT.of (z2 _ _ e2)) (.cons (.str _) (.cons lx (.cons lk .nil)))) (.cons (.tup (SqT.of (z3 _ _ e3)) (.cons (.str _) (.cons lk .nil))) (.cons (.tup (SqT.of (z4 _ _ e4)) (.cons (.str _) (.cons lk (.cons lx .nil)))) (.cons (.tup (SqT.of (z5 _ _ e5)) (.cons (.str _) (.cons lx (.cons lk .nil)))) (.cons (.tup (SqT.of (z6 _ _ e6)) (.cons (.str _) (.cons lk (.cons lk .nil)))) .nil))))))
      have elt : SqT K L lt ([q1, q2, q3, q4, q5, q6].map V.ref) := SqT.of e7
      have qlen : [q1, q2, q3, q4, q5, q6].length = 6 := rfl
      generalize [q1, q2, q3, q4, q5, q6] = qs at dl6 elt qlen
      clear e1 e2 e3 e4 e5 e6 e7 f1 f2 f3 f4 f5 f6 f7 z1 z2 z3 z4 z5 z6 g1 g2 g3 g4 g5 g6 g7
      have BL := B9.same z9
      obtain ⟨okL, m100⟩ := lot_row okx okk sx sk
      have dep6 := lot_dep px pk
      have sz13 := lot_sz sx sk
      have tups : ∀ d ∈ lotD ex ek, ∃ c ps, d = .tuple (.str c :: ps) ∧ ps ≠ [] := lot_tup
      have dlen : (lotD ex ek).length = 6 := rfl
      have DL := deck_same D9 z9
      have KL : Keep dk dl H7 L := (K8.trans K9).trans (same_keep z9)
      generalize lotD ex ek = ds at dl6 okL m100 dep6 sz13 tups dlen
      obtain ⟨cdL, _, _, _, _, hcL, _⟩ := id BL.ex
      have qsl : (qs.map V.ref).length = 6 := by rw [List.length_map, qlen]
      generalize qs.map V.ref = qv at dl6 elt qsl
      -- all are things
      refine ⟨_, rfl, lt, rfl, ⟨_, elt⟩, fun E1 hE1 => ?_⟩
      refine lc_tup (K := K) (a := lt) (xs := qv) (fun i H' => H' E1 = some (.lst []) ∧ Same L H') ⟨upd_same, same_new same_rfl hE1⟩ (fun i H' _ z => kt_same z.2 _ _ elt) ?_ ?_
      · rintro i y HA hi ⟨eA, sA⟩
        have il : i < qv.length := (List.getElem?_eq_some_iff.mp hi).1
        have hx : ds[i]? = some ds[i] := List.getElem?_eq_getElem (by omega)
        obtain ⟨y', hy', dy⟩ := dps_at dl6 hx
        rw [hi] at hy'
        cases hy'
        generalize ds[i] = d at hx dy
        have md := List.mem_of_getElem? hx
        exact ⟨rfl, _, rfl, c, cdL, _, rfl, sA _ _ hcL, rfl, _, rfl, c, y, stdKs, stdOs, d, rfl, BL.same sA, dp_same sA _ _ dy, okL.each d md, okL.szs md, fun HB sB => ⟨_, rfl, ite2 (fun z => absurd z (by decide)) (fun _ => ⟨sB _ _ eA, same_tr sA sB⟩)⟩⟩
      rintro HA ⟨eA, sA⟩
      refine ⟨Nat.zero_le _, fun l1 hl1 => ?_⟩
      have eA1 : upd HA l1 (.lst []) E1 = some (.lst []) := (upd_ne (ne_of_none eA hl1)).trans eA
      have eA2 : upd HA l1 (.lst []) l1 = some (.lst []) := upd_same
      have sA1 : Same L (upd HA l1 (.lst [])) := same_new sA hl1
      refine ⟨.list [], .list [], .lst (SqL.of eA1) .nil, .lst (SqL.of eA2) .nil, rfl, rfl, _, rfl, ite2 (fun z => absurd z (by decide)) (fun _ => ?_)⟩
      show Ends.nx _ _ (upd HA l1 (.lst []))
      generalize upd HA l1 (.lst []) = M at sA1
      clear eA1 eA2 eA hl1 sA HA
      have BM := BL.same sA1
      have hcM := sA1 _ _ hcL
      have eltM := kt_same sA1 _ _ elt
      have dlM := dps_same sA1 _ _ dl6
      -- none is one with a part more, one less, as a list
      refine ⟨_, rfl, lt, rfl, ⟨_, eltM⟩, fun E2 hE2 => ?_⟩
      refine lc_tup (K := K) (a := lt) (xs := qv) (fun i H' => H' E2 = some (.lst []) ∧ Same M H') ⟨upd_same, same_new same_rfl hE2⟩ (fun i H' _ z => kt_same z.2 _ _ eltM) ?_ ?_
      · rintro i y HA hi ⟨eA, sA⟩
        have il : i < qv.length := (List.getElem?_eq_some_iff.mp hi).1
        have hx : ds[i]? = some ds[i] := List.getElem?_eq_getElem (by omega)
        obtain ⟨y', hy', dy⟩ := dps_at dlM hx
        rw [hi] at hy'
        cases hy'
        generalize ds[i] = d at hx dy
        have md := List.mem_of_getElem? hx
        obtain ⟨cw, pp, rfl, ppn⟩ := tups d md
        rcases th_cases (drawn_th (okL.each _ md).dr) dy with ⟨_, z, _⟩ | ⟨b, cw', zs, pp', z, rfl, hb, hzs, _, _⟩
        · cases z
        cases z
        obtain ⟨hm, hc8, _⟩ := (okL.each _ md).kid
        have zl := dps_len hzs
        have n12 := std_num _ hm
        have hbA := kt_same sA _ _ hb
        have hzn : zs ≠ [] := fun z => ppn (List.length_eq_zero_iff.mp (by rw [← zl, z]; rfl))
        refine ⟨rfl, _, rfl, c, cdL, _, rfl, sA _ _ hcM, rfl, _, rfl, (by show 1 ≤ sizeLine; omega), fun w1 hw1 => ?_⟩
        have t1 : Same HA (upd HA w1 (.tup [.str (lw "a")])) := same_new same_rfl hw1
        have u1 : upd HA w1 (.tup [.str (lw "a")]) w1 = some (.tup [.str (lw "a")]) := upd_same
        refine ⟨b, w1, _, _, rfl, rfl, kt_same t1 _ _ hbA, SqT.of u1, (by simp only [List.length_cons, List.length_nil]; omega), (fun z => nomatch z), (fun _ z => nomatch z), fun _ _ w2 hw2 => ?_⟩
        have t2 : Same HA (upd (upd HA w1 (.tup [.str (lw "a")])) w2 (.tup ((.str cw :: zs) ++ [.str (lw "a")]))) := same_new t1 hw2
        refine ⟨c, .ref w2, stdKs, stdOs, rfl, BM.same (same_tr sA t2), .inl ⟨w2, cw, _, zs ++ [.str (lw "a")], rfl, SqT.of upd_same, hm, (by rw [List.length_append, zl]; simp only [List.length_cons, List.length_nil]; omega), hc8⟩, fun HB sB => ⟨_, rfl, ite2 (fun z => absurd z (by decide)) (fun _ => ?_)⟩⟩
        have sAB := same_tr t2 sB
        have sMB := same_tr sA sAB
        have hbB := kt_same sAB _ _ hbA
        have l12 : zs.length = 1 ∨ zs.length = 2 := by omega
        refine ⟨_, rfl, c, cdL, _, rfl, sMB _ _ hcM, rfl, _, rfl, _, rfl, _, rfl, b, _, rfl, hbB, not_whole l12, fun w3 hw3 => ?_⟩
        rw [cut_last l12]
        have t3 : Same HB (upd HB w3 (.tup (.str cw :: zs.dropLast))) := same_new same_rfl hw3
        refine ⟨c, .ref w3, stdKs, stdOs, rfl, BM.same (same_tr sMB t3), .inl ⟨w3, cw, _, zs.dropLast, rfl, SqT.of upd_same, hm, (by rw [List.length_dropLast, zl]; omega), hc8⟩, fun HC sC => ⟨_, rfl, ite2 (fun z => absurd z (by decide)) (fun _ => ?_)⟩⟩
        have sBC := same_tr t3 sC
        have sMC := same_tr sMB sBC
        refine ⟨_, rfl, c, cdL, _, rfl, sMC _ _ hcM, rfl, _, rfl, b, _, rfl, .inr (kt_same sBC _ _ hbB), fun w4 hw4 => ?_⟩
        have t4 : Same HC (upd HC w4 (.lst (.str cw :: zs))) := same_new same_rfl hw4
        refine ⟨c, .ref w4, stdKs, stdOs, rfl, BM.same (same_tr sMC t4), .inr (.inl ⟨w4, _, rfl, upd_same⟩), fun HE sE => ⟨_, rfl, ite2 (fun z => absurd z (by decide)) (fun _ => ?_)⟩⟩
        have sAE := same_tr sAB (same_tr sBC (same_tr t4 sE))
        exact ⟨sAE _ _ eA, same_tr sA sAE⟩
      rintro HA ⟨eA, sA⟩
      refine ⟨Nat.zero_le _, fun l1 hl1 => ?_⟩
      have eA1 : upd HA l1 (.lst []) E2 = some (.lst []) := (upd_ne (ne_of_none eA hl1)).trans eA
      have eA2 : upd HA l1 (.lst []) l1 = some (.lst []) := upd_same
      have sA2 : Same M (upd HA l1 (.lst [])) := same_new sA hl1
      refine ⟨.list [], .list [], .lst (SqL.of eA1) .nil, .lst (SqL.of eA2) .nil, rfl, rfl, _, rfl, ite2 (fun z => absurd z (by decide)) (fun _ => ?_)⟩
      show Ends.nx _ _ (upd HA l1 (.lst []))
      generalize upd HA l1 (.lst []) = N at sA2
      clear eA1 eA2 eA hl1 sA HA
      have sLN := same_tr sA1 sA2
      have BN := BL.same sLN
      have eltN := kt_same sLN _ _ elt
      have dlN := dps_same sLN _ _ dl6
      -- the row
      refine ⟨_, rfl, _, rfl, ?_⟩
      refine fun x dx nx ndx ne => made_row (E := E0) BN eltN dlN okL nx ndx ne fun R1 sR1 Rx => ?_
      obtain ⟨dx0, b0, t0, n0, p0, ws0, pss0, pds0, ys0, hx1, _⟩ := id Rx.ex
      have sLR := same_tr sLN sR1
      refine ⟨rfl, rfl, fun c2 c2x R2 sR2 hc2 => ?_⟩
      have B2 : BkAt K CB R2 c2 stdKs stdOs := ⟨⟨c2x, kk0, oo0, ps0, as0, hc2, S.ks _, S.os _⟩, std_ks, std_os⟩
      refine ⟨_, rfl, x, dx0, _, rfl, sR2 _ _ hx1, x, stdKs, stdOs, ds, rfl, Rx.same sR2, by omega, fun R3 sR3 => ?_⟩
      have s13 := same_tr sR2 sR3
      refine ⟨_, rfl, c2, stdKs, stdOs, ds, rfl, B2.same sR3, okL, by omega, m100, (fun d hd => by have := dep6 d hd; omega), fun y R4 sR4 _ Ry => ?_⟩
      have s14 := same_tr s13 sR4
      obtain ⟨dy0, _, _, _, _, _, _, _, _, hy1, _⟩ := id Ry.ex
      refine ⟨_, rfl, ⟨y, x, _, _, _, _, rfl, rfl, hy1, s14 _ _ hx1, stdKs, stdOs, ds, Ry, Rx.same s14, by omega⟩, fun R5 sR5 => ⟨_, rfl, ite2 (fun z => absurd z (by decide)) (fun _ => ?_)⟩⟩
      have s15 : Same R1 R5 := same_tr s14 sR5
      refine ⟨rfl, fun c3 c3x R6 sR6 hc3 => ?_⟩
      have B3' : BkAt K CB R6 c3 stdKs stdOs := ⟨⟨c3x, kk0, oo0, ps0, as0, hc3, S.ks _, S.os _⟩, std_ks, std_os⟩
      have s16 := same_tr s15 sR6
      have sL6 := same_tr sLR s16
      refine ⟨_, rfl, ⟨c3, c, _, _, _, _, rfl, rfl, hc3, sL6 _ _ hcL, stdKs, stdOs, B3', BL.same sL6⟩, fun R7 sR7 => ⟨_, rfl, ite2 (fun z => absurd z (by decide)) (fun _ => ?_)⟩⟩
      have s17 : Same R1 R7 := same_tr s16 sR7
      -- the lines
      refine ⟨_, rfl, x, dx0, _, rfl, s17 _ _ hx1, x, stdKs, stdOs, ds, rfl, Rx.same s17, by omega, fun R8 sR8 => ?_⟩
      have tlen := row_len okL (by omega : ds.length ≤ 20)
      refine ⟨_, rfl, ⟨_, rfl⟩, _, _, rfl, rfl, by decide +kernel, by omega, fun L1 hL1 => ?_⟩
      have sp' : Txt.split (rowT ds) (PySem.Str.ofString "
") = rowL ds.length :: ds.map txt := row_split (fun d hd => (okL.each d hd).dr) (by omega : ds.length ≤ 20)
      rw [sp']
      have j1 : Same R8 (upd R8 L1 (.lst ((rowL ds.length :: ds.map txt).map V.str))) := same_new same_rfl hL1
      have k1 : upd R8 L1 (.lst ((rowL ds.length :: ds.map txt).map V.str)) L1 = some (.lst (.str (rowL ds.length) :: (ds.map txt).map V.str)) := upd_same
      generalize upd R8 L1 (.lst ((rowL ds.length :: ds.map txt).map V.str)) = R9 at j1 k1
      refine ⟨_, rfl, L1, _, rfl, SqL.of k1, fun L2 hL2 => ?_⟩
      rw [cut1']
      have j2 : Same R9 (upd R9 L2 (.lst ((ds.map txt).map V.str))) := same_new same_rfl hL2
      have k2 : upd R9 L2 (.lst ((ds.map txt).map V.str)) L2 = some (.lst ((ds.map txt).map V.str)) := upd_same
      generalize upd R9 L2 (.lst ((ds.map txt).map V.str)) = RA at j2 k2
      have sLA : Same L RA := same_tr sLR (same_tr s17 (same_tr sR8 (same_tr j1 j2)))
      have BA := BL.same sLA
      have hcA := sLA _ _ hcL
      refine ⟨L2, rfl, ⟨_, SqL.of k2⟩, fun E3 hE3 => ?_⟩
      refine lc_list (K := K) (a := L2) (xs := (ds.map txt).map V.str) (fun i H' => ∃ vs : List V, H' E3 = some (.lst vs) ∧ vs.length = i ∧ DpAll K H' vs (ds.take i) ∧ Same RA H') ⟨[], upd_same, rfl, .nil, same_new same_rfl hE3⟩ (fun i H' _ ⟨_, _, _, _, z⟩ => SqL.of (z _ _ k2)) ?_ ?_
      · rintro i y HA hi ⟨vs, eA, vl, dv, sA⟩
        rw [List.getElem?_map] at hi
        obtain ⟨t1, ht1, rfl⟩ := Option.map_eq_some_iff.mp hi
        rw [List.getElem?_map] at ht1
        obtain ⟨d, hdi, rfl⟩ := Option.map_eq_some_iff.mp ht1
        have md := List.mem_of_getElem? hdi
        have il : i < ds.length := (List.getElem?_eq_some_iff.mp hdi).1
        have s13' := sz13 d md
        have d6 := dep6 d md
        refine ⟨rfl, ?_⟩
        refine yes_if ?_
        refine ⟨_, rfl, c, cdL, _, rfl, sA _ _ hcA, rfl, _, rfl, c, stdKs, stdOs, d, rfl, BA.same sA, okL.each d md, by omega, by omega, fun v HB sB dvv => ?_⟩
        have eB := sB _ _ eA
        have kt : KT K HB (upd HB E3 (.lst (vs ++ [v]))) := kt_lst eB
        have tk : ds.take (i + 1) = ds.take i ++ [d] := by rw [List.take_add_one, hdi]; rfl
        refine ⟨vs, eB, by omega, vs ++ [v], upd_same, by rw [List.length_append, vl]; rfl, ?_, fun b u e => (upd_ne (ne_of_none e hE3)).trans (sB _ _ (sA _ _ e))⟩
        rw [tk]
        exact dps_app (ths_kt kt _ _ (thingAll_iff.mpr fun z hz => drawn_th (okL.each z (List.mem_of_mem_take hz)).dr) (dps_same sB _ _ dv)) (.cons (th_kt kt _ _ (drawn_th (okL.each d md).dr) dvv) .nil)
      rintro HA ⟨vs, eA, vl, dv, sA⟩
      rw [List.length_map, List.length_map, List.take_of_length_le (Nat.le_refl _)] at dv
      have sLH := same_tr sLA sA
      refine ⟨_, rfl, lt, _, rfl, .inr (kt_same sLH _ _ elt), fun l9 hl9 => ?_⟩
      have t9 : Same HA (upd HA l9 (.lst qv)) := same_new same_rfl hl9
      obtain ⟨lay, shp⟩ := lays_of (fun d hd => (okL.each d hd).dr) dep6
      have ev := eqv_me _ lay
      refine ⟨.list ds, .list ds, .lst (SqL.of (t9 _ _ eA)) (dps_same t9 _ _ dv), .lst (SqL.of upd_same) (dps_same (same_tr sLH t9) _ _ dl6), shp, shp, _, rfl, ite2 (fun z => ?_) (fun _ => ?_)⟩
      · rw [ev] at z
        cases z
      exact ⟨t', _, _, _, _, _, _, _, _, rfl, deck_same DL (same_tr sLH t9), by omega, by rw [Int.natCast_succ]; omega, KL.trans (same_keep (same_tr sLH t9))⟩
    rintro σ H8 ⟨t, o5, o6, o7, o8, o9, o10, o11, o12, rfl, D8, ta, tb, K8⟩
    have B8 := B7.keep D7 K8
    obtain ⟨c8, _, _, _, _, hc8, _⟩ := id B8.ex
    refine ⟨_, rfl, c, c8, _, rfl, hc8, rfl, c, .str (lw "half"), stdKs, stdOs, .str (lw "half"), rfl, B8, .str _, ⟨drawn_str (by decide +kernel), fitK_str⟩, (by rw [sz_str]; decide), fun HA sA => ⟨_, rfl, ite2 (fun _ => ?_) (fun z => absurd rfl z)⟩⟩
    refine ⟨_, rfl, c, c8, _, rfl, sA _ _ hc8, rfl, c, .str (lw "Half_"), stdKs, stdOs, rfl, B8.same sA, .inr (.inr ⟨_, rfl, by decide +kernel, by decide +kernel, by decide +kernel⟩), fun HB sB => ⟨_, rfl, _, rfl, ite2 (fun _ => ?_) (fun z => absurd rfl z)⟩⟩
    have sAB := same_tr sA sB
    refine ⟨_, rfl, c, c8, _, rfl, sAB _ _ hc8, rfl, l2, fun q9 hq9 => ?_⟩
    have t9 : Same H8 (upd HB q9 (.tup [.str (lw "pair"), .str (lw "a")])) := same_new sAB hq9
    exact ⟨c, .ref q9, stdKs, stdOs, rfl, B8.same t9, .inl ⟨q9, lw "pair", 2, [.str (lw "a")], rfl, SqT.of upd_same, by decide +kernel, by decide, by decide +kernel⟩, fun HC sC => ⟨_, rfl, k _⟩⟩
end
end K12

set_option Elab.async false
set_option linter.all false
set_option maxRecDepth 100000
set_option maxHeartbeats 4000000
/-! What the top has written, and the end. -/
namespace K12
open PySem PySem.Spec PyProof.Rows L2 Mine TL SkE StX ClX
theorem sqK {K : PySem.W.Frag} {H : Hp} {a : Addr} {its : Array Value} {n : Nat} {sl : Array (Option Value)} {xs : List V} (l : K.lookup a = some ⟨.type "tuple", none, .seq its n, sl⟩) (v : Vals xs its.toList) (hz : its.size ≤ 16777216) : SqT K H a xs := .inr ⟨_, its, n, l, rfl, rfl, (by rw [sizeLine_eq]; exact hz), v⟩
theorem rI {i : Int} {t : PySem.Tok} : RelV (.int i) (.int i t) := ⟨t, rfl⟩
theorem rS {x : Str} {t : PySem.Tok} : RelV (.str x) (.str x t) := ⟨t, rfl⟩
section
variable {P : Program} {w : World} {K : PySem.W.Frag} {mg : Str → Option Value}
theorem std_mk {kk oo ka0 ka1 ka2 ka3 ka4 ka5 oa0 oa1 oa2 oa3 oa4 oa5 ob0 ob1 ob2 ob3 ob4 ob5 oc1 oc4 oc5 : Addr} {t_ka0_0 t_ka0_1 t_ka1_0 t_ka1_1 t_ka2_0 t_ka2_1 t_ka3_0 t_ka3_1 t_ka4_0 t_ka4_1 t_ka5_0 t_ka5_1 t_oa0_0 t_oa0_1 t_oa0_2 t_oa1_0 t_oa1_1 t_oa1_2 t_oc1_0 t_oc1_1 t_oa2_0 t_oa2_1 t_oa2_2 t_oa3_0 t_oa3_1 t_oa3_2 t_oa4_0 t_oa4_1 t_oa4_2 t_oc4_0 t_oc4_1 t_oc4_2 t_oa5_0 t_oa5_1 t_oa5_2 t_oc5_0 t_oc5_1 t_oc5_2 : PySem.Tok} {n_kk n_ka0 n_ka1 n_ka2 n_ka3 n_ka4 n_ka5 n_oo n_oa0 n_ob0 n_oa1 n_ob1 n_oc1 n_oa2 n_ob2 n_oa3 n_ob3 n_oa4 n_ob4 n_oc4 n_oa5 n_ob5 n_oc5 : Nat} {s_kk s_ka0 s_ka1 s_ka2 s_ka3 s_ka4 s_ka5 s_oo s_oa0 s_ob0 s_oa1 s_ob1 s_oc1 s_oa2 s_ob2 s_oa3 s_ob3 s_oa4 s_ob4 s_oc4 s_oa5 s_ob5 s_oc5 : Array (Option Value)}
    (l_kk : K.lookup kk = some ⟨.type "tuple", none, .seq #[.ref ka0, .ref ka1, .ref ka2, .ref ka3, .ref ka4, .ref ka5] n_kk, s_kk⟩)
    (l_ka0 : K.lookup ka0 = some ⟨.type "tuple", none, .seq #[.str (PySem.Str.ofString "half") t_ka0_0, .int 1 t_ka0_1] n_ka0, s_ka0⟩)
    (l_ka1 : K.lookup ka1 = some ⟨.type "tuple", none, .seq #[.str (PySem.Str.ofString "lock") t_ka1_0, .int 2 t_ka1_1] n_ka1, s_ka1⟩)
    (l_ka2 : K.lookup ka2 = some ⟨.type "tuple", none, .seq #[.str (PySem.Str.ofString "mark") t_ka2_0, .int 1 t_ka2_1] n_ka2, s_ka2⟩)
    (l_ka3 : K.lookup ka3 = some ⟨.type "tuple", none, .seq #[.str (PySem.Str.ofString "pair") t_ka3_0, .int 2 t_ka3_1] n_ka3, s_ka3⟩)
    (l_ka4 : K.lookup ka4 = some ⟨.type "tuple", none, .seq #[.str (PySem.Str.ofString "seal") t_ka4_0, .int 2 t_ka4_1] n_ka4, s_ka4⟩)
    (l_ka5 : K.lookup ka5 = some ⟨.type "tuple", none, .seq #[.str (PySem.Str.ofString "sign") t_ka5_0, .int 2 t_ka5_1] n_ka5, s_ka5⟩)
    (l_oo : K.lookup oo = some ⟨.type "tuple", none, .seq #[.ref oa0, .ref oa1, .ref oa2, .ref oa3, .ref oa4, .ref oa5] n_oo, s_oo⟩)
    (l_oa0 : K.lookup oa0 = some ⟨.type "tuple", none, .seq #[.str (PySem.Str.ofString "first") t_oa0_0, .str (PySem.Str.ofString "pair") t_oa0_1, .int 0 t_oa0_2, .ref ob0] n_oa0, s_oa0⟩)
    (l_ob0 : K.lookup ob0 = some ⟨.type "tuple", none, .seq #[] n_ob0, s_ob0⟩)
    (l_oa1 : K.lookup oa1 = some ⟨.type "tuple", none, .seq #[.str (PySem.Str.ofString "open") t_oa1_0, .str (PySem.Str.ofString "lock") t_oa1_1, .int 0 t_oa1_2, .ref ob1] n_oa1, s_oa1⟩)
    (l_ob1 : K.lookup ob1 = some ⟨.type "tuple", none, .seq #[.ref oc1] n_ob1, s_ob1⟩)
    (l_oc1 : K.lookup oc1 = some ⟨.type "tuple", none, .seq #[.str (PySem.Str.ofString "part") t_oc1_0, .int 1 t_oc1_1] n_oc1, s_oc1⟩)
    (l_oa2 : K.lookup oa2 = some ⟨.type "tuple", none, .seq #[.str (PySem.Str.ofString "second") t_oa2_0, .str (PySem.Str.ofString "pair") t_oa2_1, .int 1 t_oa2_2, .ref ob2] n_oa2, s_oa2⟩)
    (l_ob2 : K.lookup ob2 = some ⟨.type "tuple", none, .seq #[] n_ob2, s_ob2⟩)
    (l_oa3 : K.lookup oa3 = some ⟨.type "tuple", none, .seq #[.str (PySem.Str.ofString "shown") t_oa3_0, .str (PySem.Str.ofString "sign") t_oa3_1, .int 0 t_oa3_2, .ref ob3] n_oa3, s_oa3⟩)
    (l_ob3 : K.lookup ob3 = some ⟨.type "tuple", none, .seq #[] n_ob3, s_ob3⟩)
    (l_oa4 : K.lookup oa4 = some ⟨.type "tuple", none, .seq #[.str (PySem.Str.ofString "signed") t_oa4_0, .str (PySem.Str.ofString "sign") t_oa4_1, .int 0 t_oa4_2, .ref ob4] n_oa4, s_oa4⟩)
    (l_ob4 : K.lookup ob4 = some ⟨.type "tuple", none, .seq #[.ref oc4] n_ob4, s_ob4⟩)
    (l_oc4 : K.lookup oc4 = some ⟨.type "tuple", none, .seq #[.str (PySem.Str.ofString "around") t_oc4_0, .str (PySem.Str.ofString "half") t_oc4_1, .int 1 t_oc4_2] n_oc4, s_oc4⟩)
    (l_oa5 : K.lookup oa5 = some ⟨.type "tuple", none, .seq #[.str (PySem.Str.ofString "unseal") t_oa5_0, .str (PySem.Str.ofString "seal") t_oa5_1, .int 0 t_oa5_2, .ref ob5] n_oa5, s_oa5⟩)
    (l_ob5 : K.lookup ob5 = some ⟨.type "tuple", none, .seq #[.ref oc5] n_ob5, s_ob5⟩)
    (l_oc5 : K.lookup oc5 = some ⟨.type "tuple", none, .seq #[.str (PySem.Str.ofString "inside") t_oc5_0, .int 1 t_oc5_1, .str (PySem.Str.ofString "half") t_oc5_2] n_oc5, s_oc5⟩) :
    Std K kk oo [ka0, ka1, ka2, ka3, ka4, ka5] [oa0, oa1, oa2, oa3, oa4, oa5] where
  ks := fun H => ⟨.inr ⟨(sqK l_kk (.cons rfl (.cons rfl (.cons rfl (.cons rfl (.cons rfl (.cons rfl .nil)))))) (by show 6 ≤ 16777216; decide)), _, l_kk, rfl⟩, (.cons (sqK l_ka0 (.cons rS (.cons rI .nil)) (by show 2 ≤ 16777216; decide)) (.cons (sqK l_ka1 (.cons rS (.cons rI .nil)) (by show 2 ≤ 16777216; decide)) (.cons (sqK l_ka2 (.cons rS (.cons rI .nil)) (by show 2 ≤ 16777216; decide)) (.cons (sqK l_ka3 (.cons rS (.cons rI .nil)) (by show 2 ≤ 16777216; decide)) (.cons (sqK l_ka4 (.cons rS (.cons rI .nil)) (by show 2 ≤ 16777216; decide)) (.cons (sqK l_ka5 (.cons rS (.cons rI .nil)) (by show 2 ≤ 16777216; decide)) .nil))))))⟩
  os := fun H => ⟨(sqK l_oo (.cons rfl (.cons rfl (.cons rfl (.cons rfl (.cons rfl (.cons rfl .nil)))))) (by show 6 ≤ 16777216; decide)), (.cons ⟨ob0, [], (sqK l_oa0 (.cons rS (.cons rS (.cons rI (.cons rfl .nil)))) (by show 4 ≤ 16777216; decide)), (sqK l_ob0 .nil (by show 0 ≤ 16777216; decide)), .nil⟩ (.cons ⟨ob1, [oc1], (sqK l_oa1 (.cons rS (.cons rS (.cons rI (.cons rfl .nil)))) (by show 4 ≤ 16777216; decide)), (sqK l_ob1 (.cons rfl .nil) (by show 1 ≤ 16777216; decide)), (.cons (sqK l_oc1 (.cons rS (.cons rI .nil)) (by show 2 ≤ 16777216; decide)) .nil)⟩ (.cons ⟨ob2, [], (sqK l_oa2 (.cons rS (.cons rS (.cons rI (.cons rfl .nil)))) (by show 4 ≤ 16777216; decide)), (sqK l_ob2 .nil (by show 0 ≤ 16777216; decide)), .nil⟩ (.cons ⟨ob3, [], (sqK l_oa3 (.cons rS (.cons rS (.cons rI (.cons rfl .nil)))) (by show 4 ≤ 16777216; decide)), (sqK l_ob3 .nil (by show 0 ≤ 16777216; decide)), .nil⟩ (.cons ⟨ob4, [oc4], (sqK l_oa4 (.cons rS (.cons rS (.cons rI (.cons rfl .nil)))) (by show 4 ≤ 16777216; decide)), (sqK l_ob4 (.cons rfl .nil) (by show 1 ≤ 16777216; decide)), (.cons (sqK l_oc4 (.cons rS (.cons rS (.cons rI .nil))) (by show 3 ≤ 16777216; decide)) .nil)⟩ (.cons ⟨ob5, [oc5], (sqK l_oa5 (.cons rS (.cons rS (.cons rI (.cons rfl .nil)))) (by show 4 ≤ 16777216; decide)), (sqK l_ob5 (.cons rfl .nil) (by show 1 ≤ 16777216; decide)), (.cons (sqK l_oc5 (.cons rS (.cons rI (.cons rS .nil))) (by show 3 ≤ 16777216; decide)) .nil)⟩ .nil))))))⟩
theorem all_mk {h : Heap} {fa : Addr}  (X : K.In h) (G : h.Ns mainGlobals mg) (hfa : mg "law" = some (.ref fa))
    {f_deck f_draw f_pick f_thing f_kp f_nr f_law f_word f_name f_pieces f_texts f_ascd f_textsof f_int f_asc f_kinds f_kindq f_opens f_openq f_needq f_one f_has f_nd f_std f_tok f_lb f_ip f_ct f_tt f_ni f_nt f_binit f_beq f_isth f_brt f_bneed f_rinit f_req f_rstr f_read CB CR p_read kk oo : Addr}
    {od_deck an_deck od_draw an_draw od_pick an_pick od_thing an_thing od_kp an_kp od_nr an_nr od_law an_law od_word an_word od_name an_name od_pieces an_pieces od_texts an_texts od_ascd an_ascd od_textsof an_textsof od_int an_int od_asc an_asc od_kinds an_kinds od_kindq an_kindq od_opens an_opens od_openq an_openq od_needq an_needq od_one an_one od_has an_has od_nd an_nd od_std an_std od_tok an_tok od_lb an_lb od_ip an_ip od_ct an_ct od_tt an_tt od_ni an_ni od_nt an_nt od_binit an_binit od_beq an_beq od_isth an_isth od_brt an_brt od_bneed an_bneed od_rinit an_rinit od_req an_req od_rstr an_rstr od_read an_read : Option Addr}
    {sl_deck sl_draw sl_pick sl_thing sl_kp sl_nr sl_law sl_word sl_name sl_pieces sl_texts sl_ascd sl_textsof sl_int sl_asc sl_kinds sl_kindq sl_opens sl_openq sl_needq sl_one sl_has sl_nd sl_std sl_tok sl_lb sl_ip sl_ct sl_tt sl_ni sl_nt sl_binit sl_beq sl_isth sl_brt sl_bneed sl_rinit sl_req sl_rstr sl_read : Array (Option Value)}
    {oc_deck kV_deck dc_deck pm_deck cd_deck ct_deck oc_draw kV_draw dc_draw pm_draw cd_draw ct_draw oc_pick kV_pick dc_pick pm_pick cd_pick ct_pick oc_thing kV_thing dc_thing pm_thing cd_thing ct_thing oc_kp kV_kp dc_kp pm_kp cd_kp ct_kp oc_nr kV_nr dc_nr pm_nr cd_nr ct_nr oc_law kV_law dc_law pm_law cd_law ct_law oc_word kV_word dc_word pm_word cd_word ct_word oc_name kV_name dc_name pm_name cd_name ct_name oc_pieces kV_pieces dc_pieces pm_pieces cd_pieces ct_pieces oc_texts kV_texts dc_texts pm_texts cd_texts ct_texts oc_ascd kV_ascd dc_ascd pm_ascd cd_ascd ct_ascd oc_textsof kV_textsof dc_textsof pm_textsof cd_textsof ct_textsof oc_int kV_int dc_int pm_int cd_int ct_int oc_asc kV_asc dc_asc pm_asc cd_asc ct_asc oc_kinds kV_kinds dc_kinds pm_kinds cd_kinds ct_kinds oc_kindq kV_kindq dc_kindq pm_kindq cd_kindq ct_kindq oc_opens kV_opens dc_opens pm_opens cd_opens ct_opens oc_openq kV_openq dc_openq pm_openq cd_openq ct_openq oc_needq kV_needq dc_needq pm_needq cd_needq ct_needq oc_one kV_one dc_one pm_one cd_one ct_one oc_has kV_has dc_has pm_has cd_has ct_has oc_nd kV_nd dc_nd pm_nd cd_nd ct_nd oc_std kV_std dc_std pm_std cd_std ct_std oc_tok kV_tok dc_tok pm_tok cd_tok ct_tok oc_lb kV_lb dc_lb pm_lb cd_lb ct_lb oc_ip kV_ip dc_ip pm_ip cd_ip ct_ip oc_ct kV_ct dc_ct pm_ct cd_ct ct_ct oc_tt kV_tt dc_tt pm_tt cd_tt ct_tt oc_ni kV_ni dc_ni pm_ni cd_ni ct_ni oc_nt kV_nt dc_nt pm_nt cd_nt ct_nt oc_binit kV_binit dc_binit pm_binit cd_binit ct_binit oc_beq kV_beq dc_beq pm_beq cd_beq ct_beq oc_isth kV_isth dc_isth pm_isth cd_isth ct_isth oc_brt kV_brt dc_brt pm_brt cd_brt ct_brt oc_bneed kV_bneed dc_bneed pm_bneed cd_bneed ct_bneed oc_rinit kV_rinit dc_rinit pm_rinit cd_rinit ct_rinit oc_req kV_req dc_req pm_req cd_req ct_req oc_rstr kV_rstr dc_rstr pm_rstr cd_rstr ct_rstr oc_read kV_read dc_read pm_read cd_read ct_read : Value}
    {rest_read : List Value}
    {ps0 as0 : List Addr}
    {t_longest t_letters t_capitals t_digits t_mostp t_mostn : PySem.Tok}
    (a_deck : PySem.W.nsIn K mainGlobals "_law_deck" = some (some (.ref f_deck)))
    (l_deck : K.lookup f_deck = some ⟨oc_deck, od_deck, .func (PySem.W.fnOf "_law_deck" "_law_deck" (defArgs sDeck) (defBody sDeck) (defScope sDeck) .none kV_deck dc_deck pm_deck an_deck cd_deck ct_deck), sl_deck⟩)
    (c_deck : PySem.W.codeIn K cd_deck "_law_deck" = true)
    (k_deck : PySem.W.keepIn K (.ref f_deck) = true)
    (a_draw : PySem.W.nsIn K mainGlobals "_law_draw" = some (some (.ref f_draw)))
    (l_draw : K.lookup f_draw = some ⟨oc_draw, od_draw, .func (PySem.W.fnOf "_law_draw" "_law_draw" (defArgs sDraw) (defBody sDraw) (defScope sDraw) .none kV_draw dc_draw pm_draw an_draw cd_draw ct_draw), sl_draw⟩)
    (c_draw : PySem.W.codeIn K cd_draw "_law_draw" = true)
    (k_draw : PySem.W.keepIn K (.ref f_draw) = true)
    (a_pick : PySem.W.nsIn K mainGlobals "_law_pick" = some (some (.ref f_pick)))
    (l_pick : K.lookup f_pick = some ⟨oc_pick, od_pick, .func (PySem.W.fnOf "_law_pick" "_law_pick" (defArgs sPick) (defBody sPick) (defScope sPick) .none kV_pick dc_pick pm_pick an_pick cd_pick ct_pick), sl_pick⟩)
    (c_pick : PySem.W.codeIn K cd_pick "_law_pick" = true)
    (k_pick : PySem.W.keepIn K (.ref f_pick) = true)
    (a_thing : PySem.W.nsIn K mainGlobals "_law_thing" = some (some (.ref f_thing)))
    (l_thing : K.lookup f_thing = some ⟨oc_thing, od_thing, .func (PySem.W.fnOf "_law_thing" "_law_thing" (defArgs sThing) (defBody sThing) (defScope sThing) .none kV_thing dc_thing pm_thing an_thing cd_thing ct_thing), sl_thing⟩)
    (c_thing : PySem.W.codeIn K cd_thing "_law_thing" = true)
    (k_thing : PySem.W.keepIn K (.ref f_thing) = true)
    (a_kp : PySem.W.nsIn K mainGlobals "_law_known_parts" = some (some (.ref f_kp)))
    (l_kp : K.lookup f_kp = some ⟨oc_kp, od_kp, .func (PySem.W.fnOf "_law_known_parts" "_law_known_parts" (defArgs sKP) (defBody sKP) (defScope sKP) .none kV_kp dc_kp pm_kp an_kp cd_kp ct_kp), sl_kp⟩)
    (c_kp : PySem.W.codeIn K cd_kp "_law_known_parts" = true)
    (k_kp : PySem.W.keepIn K (.ref f_kp) = true)
    (a_nr : PySem.W.nsIn K mainGlobals "_law_needed_right" = some (some (.ref f_nr)))
    (l_nr : K.lookup f_nr = some ⟨oc_nr, od_nr, .func (PySem.W.fnOf "_law_needed_right" "_law_needed_right" (defArgs sNR) (defBody sNR) (defScope sNR) .none kV_nr dc_nr pm_nr an_nr cd_nr ct_nr), sl_nr⟩)
    (c_nr : PySem.W.codeIn K cd_nr "_law_needed_right" = true)
    (k_nr : PySem.W.keepIn K (.ref f_nr) = true)
    (a_law : PySem.W.nsIn K mainGlobals "law" = some (some (.ref f_law)))
    (l_law : K.lookup f_law = some ⟨oc_law, od_law, .func (PySem.W.fnOf "law" "law" (defArgs sLaw) (defBody sLaw) (defScope sLaw) .none kV_law dc_law pm_law an_law cd_law ct_law), sl_law⟩)
    (c_law : PySem.W.codeIn K cd_law "law" = true)
    (k_law : PySem.W.keepIn K (.ref f_law) = true)
    (a_word : PySem.W.nsIn K mainGlobals "is_word" = some (some (.ref f_word)))
    (l_word : K.lookup f_word = some ⟨oc_word, od_word, .func (PySem.W.fnOf "is_word" "is_word" (defArgs sWord) (defBody sWord) (defScope sWord) .none kV_word dc_word pm_word an_word cd_word ct_word), sl_word⟩)
    (c_word : PySem.W.codeIn K cd_word "is_word" = true)
    (k_word : PySem.W.keepIn K (.ref f_word) = true)
    (a_name : PySem.W.nsIn K mainGlobals "is_name" = some (some (.ref f_name)))
    (l_name : K.lookup f_name = some ⟨oc_name, od_name, .func (PySem.W.fnOf "is_name" "is_name" (defArgs sName) (defBody sName) (defScope sName) .none kV_name dc_name pm_name an_name cd_name ct_name), sl_name⟩)
    (c_name : PySem.W.codeIn K cd_name "is_name" = true)
    (k_name : PySem.W.keepIn K (.ref f_name) = true)
    (a_pieces : PySem.W.nsIn K mainGlobals "all_pieces" = some (some (.ref f_pieces)))
    (l_pieces : K.lookup f_pieces = some ⟨oc_pieces, od_pieces, .func (PySem.W.fnOf "all_pieces" "all_pieces" (defArgs sPieces) (defBody sPieces) (defScope sPieces) .none kV_pieces dc_pieces pm_pieces an_pieces cd_pieces ct_pieces), sl_pieces⟩)
    (c_pieces : PySem.W.codeIn K cd_pieces "all_pieces" = true)
    (k_pieces : PySem.W.keepIn K (.ref f_pieces) = true)
    (a_texts : PySem.W.nsIn K mainGlobals "all_texts" = some (some (.ref f_texts)))
    (l_texts : K.lookup f_texts = some ⟨oc_texts, od_texts, .func (PySem.W.fnOf "all_texts" "all_texts" (defArgs sTexts) (defBody sTexts) (defScope sTexts) .none kV_texts dc_texts pm_texts an_texts cd_texts ct_texts), sl_texts⟩)
    (c_texts : PySem.W.codeIn K cd_texts "all_texts" = true)
    (k_texts : PySem.W.keepIn K (.ref f_texts) = true)
    (a_ascd : PySem.W.nsIn K mainGlobals "ascending" = some (some (.ref f_ascd)))
    (l_ascd : K.lookup f_ascd = some ⟨oc_ascd, od_ascd, .func (PySem.W.fnOf "ascending" "ascending" (defArgs sAscd) (defBody sAscd) (defScope sAscd) .none kV_ascd dc_ascd pm_ascd an_ascd cd_ascd ct_ascd), sl_ascd⟩)
    (c_ascd : PySem.W.codeIn K cd_ascd "ascending" = true)
    (k_ascd : PySem.W.keepIn K (.ref f_ascd) = true)
    (a_textsof : PySem.W.nsIn K mainGlobals "texts_of" = some (some (.ref f_textsof)))
    (l_textsof : K.lookup f_textsof = some ⟨oc_textsof, od_textsof, .func (PySem.W.fnOf "texts_of" "texts_of" (defArgs sTextsOf) (defBody sTextsOf) (defScope sTextsOf) .none kV_textsof dc_textsof pm_textsof an_textsof cd_textsof ct_textsof), sl_textsof⟩)
    (c_textsof : PySem.W.codeIn K cd_textsof "texts_of" = true)
    (k_textsof : PySem.W.keepIn K (.ref f_textsof) = true)
    (a_int : PySem.W.nsIn K mainGlobals "_is_integer" = some (some (.ref f_int)))
    (l_int : K.lookup f_int = some ⟨oc_int, od_int, .func (PySem.W.fnOf "_is_integer" "_is_integer" (defArgs sInt) (defBody sInt) (defScope sInt) .none kV_int dc_int pm_int an_int cd_int ct_int), sl_int⟩)
    (c_int : PySem.W.codeIn K cd_int "_is_integer" = true)
    (k_int : PySem.W.keepIn K (.ref f_int) = true)
    (a_asc : PySem.W.nsIn K mainGlobals "ascends" = some (some (.ref f_asc)))
    (l_asc : K.lookup f_asc = some ⟨oc_asc, od_asc, .func (PySem.W.fnOf "ascends" "ascends" (defArgs sAsc) (defBody sAsc) (defScope sAsc) .none kV_asc dc_asc pm_asc an_asc cd_asc ct_asc), sl_asc⟩)
    (c_asc : PySem.W.codeIn K cd_asc "ascends" = true)
    (k_asc : PySem.W.keepIn K (.ref f_asc) = true)
    (a_kinds : PySem.W.nsIn K mainGlobals "_are_kinds" = some (some (.ref f_kinds)))
    (l_kinds : K.lookup f_kinds = some ⟨oc_kinds, od_kinds, .func (PySem.W.fnOf "_are_kinds" "_are_kinds" (defArgs sKinds) (defBody sKinds) (defScope sKinds) .none kV_kinds dc_kinds pm_kinds an_kinds cd_kinds ct_kinds), sl_kinds⟩)
    (c_kinds : PySem.W.codeIn K cd_kinds "_are_kinds" = true)
    (k_kinds : PySem.W.keepIn K (.ref f_kinds) = true)
    (a_kindq : PySem.W.nsIn K mainGlobals "_is_kind" = some (some (.ref f_kindq)))
    (l_kindq : K.lookup f_kindq = some ⟨oc_kindq, od_kindq, .func (PySem.W.fnOf "_is_kind" "_is_kind" (defArgs sKindQ) (defBody sKindQ) (defScope sKindQ) .none kV_kindq dc_kindq pm_kindq an_kindq cd_kindq ct_kindq), sl_kindq⟩)
    (c_kindq : PySem.W.codeIn K cd_kindq "_is_kind" = true)
    (k_kindq : PySem.W.keepIn K (.ref f_kindq) = true)
    (a_opens : PySem.W.nsIn K mainGlobals "_are_openings" = some (some (.ref f_opens)))
    (l_opens : K.lookup f_opens = some ⟨oc_opens, od_opens, .func (PySem.W.fnOf "_are_openings" "_are_openings" (defArgs sOpens) (defBody sOpens) (defScope sOpens) .none kV_opens dc_opens pm_opens an_opens cd_opens ct_opens), sl_opens⟩)
    (c_opens : PySem.W.codeIn K cd_opens "_are_openings" = true)
    (k_opens : PySem.W.keepIn K (.ref f_opens) = true)
    (a_openq : PySem.W.nsIn K mainGlobals "_is_opening" = some (some (.ref f_openq)))
    (l_openq : K.lookup f_openq = some ⟨oc_openq, od_openq, .func (PySem.W.fnOf "_is_opening" "_is_opening" (defArgs sOpenQ) (defBody sOpenQ) (defScope sOpenQ) .none kV_openq dc_openq pm_openq an_openq cd_openq ct_openq), sl_openq⟩)
    (c_openq : PySem.W.codeIn K cd_openq "_is_opening" = true)
    (k_openq : PySem.W.keepIn K (.ref f_openq) = true)
    (a_needq : PySem.W.nsIn K mainGlobals "_is_need" = some (some (.ref f_needq)))
    (l_needq : K.lookup f_needq = some ⟨oc_needq, od_needq, .func (PySem.W.fnOf "_is_need" "_is_need" (defArgs sNeedQ) (defBody sNeedQ) (defScope sNeedQ) .none kV_needq dc_needq pm_needq an_needq cd_needq ct_needq), sl_needq⟩)
    (c_needq : PySem.W.codeIn K cd_needq "_is_need" = true)
    (k_needq : PySem.W.keepIn K (.ref f_needq) = true)
    (a_one : PySem.W.nsIn K mainGlobals "_has_one_part" = some (some (.ref f_one)))
    (l_one : K.lookup f_one = some ⟨oc_one, od_one, .func (PySem.W.fnOf "_has_one_part" "_has_one_part" (defArgs sOne) (defBody sOne) (defScope sOne) .none kV_one dc_one pm_one an_one cd_one ct_one), sl_one⟩)
    (c_one : PySem.W.codeIn K cd_one "_has_one_part" = true)
    (k_one : PySem.W.keepIn K (.ref f_one) = true)
    (a_has : PySem.W.nsIn K mainGlobals "_has_all_parts" = some (some (.ref f_has)))
    (l_has : K.lookup f_has = some ⟨oc_has, od_has, .func (PySem.W.fnOf "_has_all_parts" "_has_all_parts" (defArgs sHas) (defBody sHas) (defScope sHas) .none kV_has dc_has pm_has an_has cd_has ct_has), sl_has⟩)
    (c_has : PySem.W.codeIn K cd_has "_has_all_parts" = true)
    (k_has : PySem.W.keepIn K (.ref f_has) = true)
    (a_nd : PySem.W.nsIn K mainGlobals "_needed_thing" = some (some (.ref f_nd)))
    (l_nd : K.lookup f_nd = some ⟨oc_nd, od_nd, .func (PySem.W.fnOf "_needed_thing" "_needed_thing" (defArgs sNd) (defBody sNd) (defScope sNd) .none kV_nd dc_nd pm_nd an_nd cd_nd ct_nd), sl_nd⟩)
    (c_nd : PySem.W.codeIn K cd_nd "_needed_thing" = true)
    (k_nd : PySem.W.keepIn K (.ref f_nd) = true)
    (a_std : PySem.W.nsIn K mainGlobals "standard_book" = some (some (.ref f_std)))
    (l_std : K.lookup f_std = some ⟨oc_std, od_std, .func (PySem.W.fnOf "standard_book" "standard_book" (defArgs sStd) (defBody sStd) (defScope sStd) .none kV_std dc_std pm_std an_std cd_std ct_std), sl_std⟩)
    (c_std : PySem.W.codeIn K cd_std "standard_book" = true)
    (k_std : PySem.W.keepIn K (.ref f_std) = true)
    (a_tok : PySem.W.nsIn K mainGlobals "_tokens" = some (some (.ref f_tok)))
    (l_tok : K.lookup f_tok = some ⟨oc_tok, od_tok, .func (PySem.W.fnOf "_tokens" "_tokens" (defArgs sTok) (defBody sTok) (defScope sTok) .none kV_tok dc_tok pm_tok an_tok cd_tok ct_tok), sl_tok⟩)
    (c_tok : PySem.W.codeIn K cd_tok "_tokens" = true)
    (k_tok : PySem.W.keepIn K (.ref f_tok) = true)
    (a_lb : PySem.W.nsIn K mainGlobals "_last_bracket" = some (some (.ref f_lb)))
    (l_lb : K.lookup f_lb = some ⟨oc_lb, od_lb, .func (PySem.W.fnOf "_last_bracket" "_last_bracket" (defArgs sLB) (defBody sLB) (defScope sLB) .none kV_lb dc_lb pm_lb an_lb cd_lb ct_lb), sl_lb⟩)
    (c_lb : PySem.W.codeIn K cd_lb "_last_bracket" = true)
    (k_lb : PySem.W.keepIn K (.ref f_lb) = true)
    (a_ip : PySem.W.nsIn K mainGlobals "_is_part" = some (some (.ref f_ip)))
    (l_ip : K.lookup f_ip = some ⟨oc_ip, od_ip, .func (PySem.W.fnOf "_is_part" "_is_part" (defArgs sIP) (defBody sIP) (defScope sIP) .none kV_ip dc_ip pm_ip an_ip cd_ip ct_ip), sl_ip⟩)
    (c_ip : PySem.W.codeIn K cd_ip "_is_part" = true)
    (k_ip : PySem.W.keepIn K (.ref f_ip) = true)
    (a_ct : PySem.W.nsIn K mainGlobals "_closed_thing" = some (some (.ref f_ct)))
    (l_ct : K.lookup f_ct = some ⟨oc_ct, od_ct, .func (PySem.W.fnOf "_closed_thing" "_closed_thing" (defArgs sCT) (defBody sCT) (defScope sCT) .none kV_ct dc_ct pm_ct an_ct cd_ct ct_ct), sl_ct⟩)
    (c_ct : PySem.W.codeIn K cd_ct "_closed_thing" = true)
    (k_ct : PySem.W.keepIn K (.ref f_ct) = true)
    (a_tt : PySem.W.nsIn K mainGlobals "thing_with_text" = some (some (.ref f_tt)))
    (l_tt : K.lookup f_tt = some ⟨oc_tt, od_tt, .func (PySem.W.fnOf "thing_with_text" "thing_with_text" (defArgs sTT) (defBody sTT) (defScope sTT) .none kV_tt dc_tt pm_tt an_tt cd_tt ct_tt), sl_tt⟩)
    (c_tt : PySem.W.codeIn K cd_tt "thing_with_text" = true)
    (k_tt : PySem.W.keepIn K (.ref f_tt) = true)
    (a_ni : PySem.W.nsIn K mainGlobals "number_in" = some (some (.ref f_ni)))
    (l_ni : K.lookup f_ni = some ⟨oc_ni, od_ni, .func (PySem.W.fnOf "number_in" "number_in" (defArgs sNI) (defBody sNI) (defScope sNI) .none kV_ni dc_ni pm_ni an_ni cd_ni ct_ni), sl_ni⟩)
    (c_ni : PySem.W.codeIn K cd_ni "number_in" = true)
    (k_ni : PySem.W.keepIn K (.ref f_ni) = true)
    (a_nt : PySem.W.nsIn K mainGlobals "_number_of_things" = some (some (.ref f_nt)))
    (l_nt : K.lookup f_nt = some ⟨oc_nt, od_nt, .func (PySem.W.fnOf "_number_of_things" "_number_of_things" (defArgs sNT) (defBody sNT) (defScope sNT) .none kV_nt dc_nt pm_nt an_nt cd_nt ct_nt), sl_nt⟩)
    (c_nt : PySem.W.codeIn K cd_nt "_number_of_things" = true)
    (k_nt : PySem.W.keepIn K (.ref f_nt) = true)
    (a_CB : PySem.W.nsIn K mainGlobals "Book" = some (some (.ref CB)))
    (a_CR : PySem.W.nsIn K mainGlobals "Row" = some (some (.ref CR)))
    (a_binit : PySem.W.findIn K (.ref CB) "__init__" = some (some (.ref f_binit)))
    (i_binit : PySem.W.isFn K (.ref f_binit) = true)
    (l_binit : K.lookup f_binit = some ⟨oc_binit, od_binit, .func (PySem.W.fnOf "__init__" "Book.__init__" (defArgs sInit) (defBody sInit) (defScope sInit) .none kV_binit dc_binit pm_binit an_binit cd_binit ct_binit), sl_binit⟩)
    (c_binit : PySem.W.codeIn K cd_binit "Book.__init__" = true)
    (k_binit : PySem.W.keepIn K (.ref f_binit) = true)
    (a_beq : PySem.W.findIn K (.ref CB) "__eq__" = some (some (.ref f_beq)))
    (i_beq : PySem.W.isFn K (.ref f_beq) = true)
    (l_beq : K.lookup f_beq = some ⟨oc_beq, od_beq, .func (PySem.W.fnOf "__eq__" "Book.__eq__" (defArgs sEq) (defBody sEq) (defScope sEq) .none kV_beq dc_beq pm_beq an_beq cd_beq ct_beq), sl_beq⟩)
    (c_beq : PySem.W.codeIn K cd_beq "Book.__eq__" = true)
    (k_beq : PySem.W.keepIn K (.ref f_beq) = true)
    (a_isth : PySem.W.findIn K (.ref CB) "is_thing" = some (some (.ref f_isth)))
    (i_isth : PySem.W.isFn K (.ref f_isth) = true)
    (l_isth : K.lookup f_isth = some ⟨oc_isth, od_isth, .func (PySem.W.fnOf "is_thing" "Book.is_thing" (defArgs sIsTh) (defBody sIsTh) (defScope sIsTh) .none kV_isth dc_isth pm_isth an_isth cd_isth ct_isth), sl_isth⟩)
    (c_isth : PySem.W.codeIn K cd_isth "Book.is_thing" = true)
    (k_isth : PySem.W.keepIn K (.ref f_isth) = true)
    (a_brt : PySem.W.findIn K (.ref CB) "read_thing" = some (some (.ref f_brt)))
    (i_brt : PySem.W.isFn K (.ref f_brt) = true)
    (l_brt : K.lookup f_brt = some ⟨oc_brt, od_brt, .func (PySem.W.fnOf "read_thing" "Book.read_thing" (defArgs sRT) (defBody sRT) (defScope sRT) .none kV_brt dc_brt pm_brt an_brt cd_brt ct_brt), sl_brt⟩)
    (c_brt : PySem.W.codeIn K cd_brt "Book.read_thing" = true)
    (k_brt : PySem.W.keepIn K (.ref f_brt) = true)
    (a_bneed : PySem.W.findIn K (.ref CB) "needed" = some (some (.ref f_bneed)))
    (i_bneed : PySem.W.isFn K (.ref f_bneed) = true)
    (l_bneed : K.lookup f_bneed = some ⟨oc_bneed, od_bneed, .func (PySem.W.fnOf "needed" "Book.needed" (defArgs sNeeded) (defBody sNeeded) (defScope sNeeded) .none kV_bneed dc_bneed pm_bneed an_bneed cd_bneed ct_bneed), sl_bneed⟩)
    (c_bneed : PySem.W.codeIn K cd_bneed "Book.needed" = true)
    (k_bneed : PySem.W.keepIn K (.ref f_bneed) = true)
    (a_rinit : PySem.W.findIn K (.ref CR) "__init__" = some (some (.ref f_rinit)))
    (i_rinit : PySem.W.isFn K (.ref f_rinit) = true)
    (l_rinit : K.lookup f_rinit = some ⟨oc_rinit, od_rinit, .func (PySem.W.fnOf "__init__" "Row.__init__" (defArgs sRInit) (defBody sRInit) (defScope sRInit) .none kV_rinit dc_rinit pm_rinit an_rinit cd_rinit ct_rinit), sl_rinit⟩)
    (c_rinit : PySem.W.codeIn K cd_rinit "Row.__init__" = true)
    (k_rinit : PySem.W.keepIn K (.ref f_rinit) = true)
    (a_req : PySem.W.findIn K (.ref CR) "__eq__" = some (some (.ref f_req)))
    (i_req : PySem.W.isFn K (.ref f_req) = true)
    (l_req : K.lookup f_req = some ⟨oc_req, od_req, .func (PySem.W.fnOf "__eq__" "Row.__eq__" (defArgs sREq) (defBody sREq) (defScope sREq) .none kV_req dc_req pm_req an_req cd_req ct_req), sl_req⟩)
    (c_req : PySem.W.codeIn K cd_req "Row.__eq__" = true)
    (k_req : PySem.W.keepIn K (.ref f_req) = true)
    (a_rstr : PySem.W.findIn K (.ref CR) "__str__" = some (some (.ref f_rstr)))
    (i_rstr : PySem.W.isFn K (.ref f_rstr) = true)
    (l_rstr : K.lookup f_rstr = some ⟨oc_rstr, od_rstr, .func (PySem.W.fnOf "__str__" "Row.__str__" (defArgs sRStr) (defBody sRStr) (defScope sRStr) .none kV_rstr dc_rstr pm_rstr an_rstr cd_rstr ct_rstr), sl_rstr⟩)
    (c_rstr : PySem.W.codeIn K cd_rstr "Row.__str__" = true)
    (k_rstr : PySem.W.keepIn K (.ref f_rstr) = true)
    (cr1_read : PySem.W.readsIn K CR (.type "type") = true)
    (cr2_read : PySem.W.specialIn K (.ref CR) "__getattribute__" = some (some (.builtin "type.__getattribute__")))
    (cm1_read : PySem.W.findCls K (.ref CR) (.type "type") "read" = some (.get (.builtin "classmethod.__get__") (.ref p_read) .none (.ref CR)))
    (cm2_read : PySem.W.recIn K p_read "classmethod" = some (.ref f_read :: rest_read))
    (cm3_read : PySem.W.fnIn K f_read = true)
    (l_read : K.lookup f_read = some ⟨oc_read, od_read, .func (PySem.W.fnOf "read" "Row.read" (defArgs sRd) (defBody sRd) (defScope sRd) .none kV_read dc_read pm_read an_read cd_read ct_read), sl_read⟩)
    (c_read : PySem.W.codeIn K cd_read "Row.read" = true)
    (k_read : PySem.W.keepIn K (.ref f_read) = true)
    (bpg : PySem.W.plainGet K CB Str.empty = true)
    (bhd : PySem.W.hasDictIn K CB = true)
    (bpo : PySem.W.plainOver K CB = true)
    (bsa : PySem.W.findIn K (.ref CB) "__setattr__" = some (some (.builtin "object.__setattr__")))
    (bmk : PySem.W.makesIn K CB = true)
    (bkc : PySem.W.keepIn K (.ref CB) = true)
    (bnK : PySem.W.findIn K (.ref CB) "kinds" = some none)
    (bnO : PySem.W.findIn K (.ref CB) "openings" = some none)
    (bca : PySem.W.findIn K (.ref CB) "__class__" = some (some (.builtin "object.__class__")))
    (bcm : PySem.W.mroIn K CB (.type "object") = some true)
    (rpg : PySem.W.plainGet K CR Str.empty = true)
    (rhd : PySem.W.hasDictIn K CR = true)
    (rpo : PySem.W.plainOver K CR = true)
    (rsa : PySem.W.findIn K (.ref CR) "__setattr__" = some (some (.builtin "object.__setattr__")))
    (rmk : PySem.W.makesIn K CR = true)
    (rkc : PySem.W.keepIn K (.ref CR) = true)
    (rnB : PySem.W.findIn K (.ref CR) "book" = some none)
    (rnT : PySem.W.findIn K (.ref CR) "things" = some none)
    (rnN : PySem.W.findIn K (.ref CR) "names" = some none)
    (rnP : PySem.W.findIn K (.ref CR) "pieces" = some none)
    (rca : PySem.W.findIn K (.ref CR) "__class__" = some (some (.builtin "object.__class__")))
    (rcm : PySem.W.mroIn K CR (.type "object") = some true)
    (icn : PySem.W.specialIn K (.builtin "object.__class__") "__get__" = some (some (.builtin "getset_descriptor.__get__")))
    (ict : PySem.W.takesIn K (.builtin "object.__class__") = some true)
    (g_longest : PySem.W.nsIn K mainGlobals "LONGEST" = some (some (.int 8 t_longest)))
    (g_letters : PySem.W.nsIn K mainGlobals "LETTERS" = some (some (.str (PySem.Str.ofString "abcdefghijklmnopqrstuvwxyz") t_letters)))
    (g_capitals : PySem.W.nsIn K mainGlobals "CAPITALS" = some (some (.str (PySem.Str.ofString "ABCDEFGHIJKLMNOPQRSTUVWXYZ") t_capitals)))
    (g_digits : PySem.W.nsIn K mainGlobals "DIGITS" = some (some (.str (PySem.Str.ofString "0123456789") t_digits)))
    (g_mostp : PySem.W.nsIn K mainGlobals "MOST_PARTS" = some (some (.int 3 t_mostp)))
    (g_mostn : PySem.W.nsIn K mainGlobals "MOST_NEEDS" = some (some (.int 2 t_mostn)))
    (z_int : PySem.W.nsIn K mainGlobals "int" = some none)
    (z_list : PySem.W.nsIn K mainGlobals "list" = some none)
    (z_range : PySem.W.nsIn K mainGlobals "range" = some none)
    (z_tuple : PySem.W.nsIn K mainGlobals "tuple" = some none)
    (z_isinstance : PySem.W.nsIn K mainGlobals "isinstance" = some none)
    (z_repr : PySem.W.nsIn K mainGlobals "repr" = some none)
    (z_str : PySem.W.nsIn K mainGlobals "str" = some none)
    (z_bool : PySem.W.nsIn K mainGlobals "bool" = some none)
    (z_len : PySem.W.nsIn K mainGlobals "len" = some none)
    (z_all : PySem.W.nsIn K mainGlobals "all" = some none)
    (z_zip : PySem.W.nsIn K mainGlobals "zip" = some none)
    (z_dict : PySem.W.nsIn K mainGlobals "dict" = some none)
    (z_sorted : PySem.W.nsIn K mainGlobals "sorted" = some none)
    (z_reversed : PySem.W.nsIn K mainGlobals "reversed" = some none)
    (z_enumerate : PySem.W.nsIn K mainGlobals "enumerate" = some none)
    (a_kk : PySem.W.nsIn K mainGlobals "STANDARD_KINDS" = some (some (.ref kk)))
    (a_oo : PySem.W.nsIn K mainGlobals "STANDARD_OPENINGS" = some (some (.ref oo)))
    (S : Std K kk oo ps0 as0) :
    ∃ fd : FuncData, (∀ (s : Shared) (v : Value), BindsTo s fd ⟨[v], []⟩ [("_law_script", v)]) ∧ ∀ base : Heap, K.In base → base.Ns mainGlobals mg → FnG P w K mg base 12 fa fd ["_law_script"] (spLaw K) := by
  have e := hfa.symm.trans (PySem.W.mg_of X G a_law)
  cases e
  have F_deck := fun_mk (st := sDeck) l_deck c_deck k_deck
  have F_draw := fun_mk (st := sDraw) l_draw c_draw k_draw
  have F_pick := fun_mk (st := sPick) l_pick c_pick k_pick
  have F_thing := fun_mk (st := sThing) l_thing c_thing k_thing
  have F_kp := fun_mk (st := sKP) l_kp c_kp k_kp
  have F_nr := fun_mk (st := sNR) l_nr c_nr k_nr
  have F_law := fun_mk (st := sLaw) l_law c_law k_law
  have F_word := fun_mk (st := sWord) l_word c_word k_word
  have F_name := fun_mk (st := sName) l_name c_name k_name
  have F_pieces := fun_mk (st := sPieces) l_pieces c_pieces k_pieces
  have F_texts := fun_mk (st := sTexts) l_texts c_texts k_texts
  have F_ascd := fun_mk (st := sAscd) l_ascd c_ascd k_ascd
  have F_textsof := fun_mk (st := sTextsOf) l_textsof c_textsof k_textsof
  have F_int := fun_mk (st := sInt) l_int c_int k_int
  have F_asc := fun_mk (st := sAsc) l_asc c_asc k_asc
  have F_kinds := fun_mk (st := sKinds) l_kinds c_kinds k_kinds
  have F_kindq := fun_mk (st := sKindQ) l_kindq c_kindq k_kindq
  have F_opens := fun_mk (st := sOpens) l_opens c_opens k_opens
  have F_openq := fun_mk (st := sOpenQ) l_openq c_openq k_openq
  have F_needq := fun_mk (st := sNeedQ) l_needq c_needq k_needq
  have F_one := fun_mk (st := sOne) l_one c_one k_one
  have F_has := fun_mk (st := sHas) l_has c_has k_has
  have F_nd := fun_mk (st := sNd) l_nd c_nd k_nd
  have F_std := fun_mk (st := sStd) l_std c_std k_std
  have F_tok := fun_mk (st := sTok) l_tok c_tok k_tok
  have F_lb := fun_mk (st := sLB) l_lb c_lb k_lb
  have F_ip := fun_mk (st := sIP) l_ip c_ip k_ip
  have F_ct := fun_mk (st := sCT) l_ct c_ct k_ct
  have F_tt := fun_mk (st := sTT) l_tt c_tt k_tt
  have F_ni := fun_mk (st := sNI) l_ni c_ni k_ni
  have F_nt := fun_mk (st := sNT) l_nt c_nt k_nt
  have F_binit := fun_mk (st := sInit) l_binit c_binit k_binit
  have F_beq := fun_mk (st := sEq) l_beq c_beq k_beq
  have F_isth := fun_mk (st := sIsTh) l_isth c_isth k_isth
  have F_brt := fun_mk (st := sRT) l_brt c_brt k_brt
  have F_bneed := fun_mk (st := sNeeded) l_bneed c_bneed k_bneed
  have F_rinit := fun_mk (st := sRInit) l_rinit c_rinit k_rinit
  have F_req := fun_mk (st := sREq) l_req c_req k_req
  have F_rstr := fun_mk (st := sRStr) l_rstr c_rstr k_rstr
  have F_read := fun_mk (st := sRd) l_read c_read k_read
  have b_deck := F_deck.binds (ps := ["_law_script"]) fun _ _ _ _ _ _ us hl => match us, hl with | [_], _ => rfl
  have b_draw := F_draw.binds (ps := ["_law_deck_here", "_law_below"]) fun _ _ _ _ _ _ us hl => match us, hl with | [_, _], _ => rfl
  have b_pick := F_pick.binds (ps := ["_law_deck_here", "_law_some"]) fun _ _ _ _ _ _ us hl => match us, hl with | [_, _], _ => rfl
  have b_thing := F_thing.binds (ps := ["_law_deck_here", "_law_makes", "_law_leaves", "_law_top", "_law_deep"]) fun _ _ _ _ _ _ us hl => match us, hl with | [_, _, _, _, _], _ => rfl
  have b_kp := F_kp.binds (ps := []) fun _ _ _ _ _ _ us hl => match us, hl with | [], _ => rfl
  have b_nr := F_nr.binds (ps := ["_law_code", "_law_x", "_law_k"]) fun _ _ _ _ _ _ us hl => match us, hl with | [_, _, _], _ => rfl
  have b_word := F_word.binds (ps := ["thing"]) fun _ _ _ _ _ _ us hl => match us, hl with | [_], _ => rfl
  have b_name := F_name.binds (ps := ["thing"]) fun _ _ _ _ _ _ us hl => match us, hl with | [_], _ => rfl
  have b_pieces := F_pieces.binds (ps := ["things"]) fun _ _ _ _ _ _ us hl => match us, hl with | [_], _ => rfl
  have b_texts := F_texts.binds (ps := ["pieces"]) fun _ _ _ _ _ _ us hl => match us, hl with | [_], _ => rfl
  have b_ascd := F_ascd.binds (ps := ["things", "texts"]) fun _ _ _ _ _ _ us hl => match us, hl with | [_, _], _ => rfl
  have b_textsof := F_textsof.binds (ps := ["things"]) fun _ _ _ _ _ _ us hl => match us, hl with | [_], _ => rfl
  have b_int := F_int.binds (ps := ["value", "low", "high"]) fun _ _ _ _ _ _ us hl => match us, hl with | [_, _, _], _ => rfl
  have b_asc := F_asc.binds (ps := ["texts"]) fun _ _ _ _ _ _ us hl => match us, hl with | [_], _ => rfl
  have b_kinds := F_kinds.binds (ps := ["kinds"]) fun _ _ _ _ _ _ us hl => match us, hl with | [_], _ => rfl
  have b_kindq := F_kindq.binds (ps := ["kind"]) fun _ _ _ _ _ _ us hl => match us, hl with | [_], _ => rfl
  have b_opens := F_opens.binds (ps := ["counts", "openings"]) fun _ _ _ _ _ _ us hl => match us, hl with | [_, _], _ => rfl
  have b_openq := F_openq.binds (ps := ["counts", "opening"]) fun _ _ _ _ _ _ us hl => match us, hl with | [_, _], _ => rfl
  have b_needq := F_needq.binds (ps := ["counts", "last", "need"]) fun _ _ _ _ _ _ us hl => match us, hl with | [_, _, _], _ => rfl
  have b_one := F_one.binds (ps := ["counts", "kind"]) fun _ _ _ _ _ _ us hl => match us, hl with | [_, _], _ => rfl
  have b_has := F_has.binds (ps := ["counts", "thing"]) fun _ _ _ _ _ _ us hl => match us, hl with | [_, _], _ => rfl
  have b_nd := F_nd.binds (ps := ["need", "thing"]) fun _ _ _ _ _ _ us hl => match us, hl with | [_, _], _ => rfl
  have b_std := F_std.binds (ps := []) fun _ _ _ _ _ _ us hl => match us, hl with | [], _ => rfl
  have b_tok := F_tok.binds (ps := ["text"]) fun _ _ _ _ _ _ us hl => match us, hl with | [_], _ => rfl
  have b_lb := F_lb.binds (ps := ["stack"]) fun _ _ _ _ _ _ us hl => match us, hl with | [_], _ => rfl
  have b_ip := F_ip.binds (ps := ["token"]) fun _ _ _ _ _ _ us hl => match us, hl with | [_], _ => rfl
  have b_ct := F_ct.binds (ps := ["counts", "tokens"]) fun _ _ _ _ _ _ us hl => match us, hl with | [_, _], _ => rfl
  have b_tt := F_tt.binds (ps := ["counts", "text"]) fun _ _ _ _ _ _ us hl => match us, hl with | [_, _], _ => rfl
  have b_ni := F_ni.binds (ps := ["word"]) fun _ _ _ _ _ _ us hl => match us, hl with | [_], _ => rfl
  have b_nt := F_nt.binds (ps := ["line"]) fun _ _ _ _ _ _ us hl => match us, hl with | [_], _ => rfl
  have b_binit := F_binit.binds (ps := ["self", "kinds", "openings"]) fun _ _ _ _ _ _ us hl => match us, hl with | [_, _, _], _ => rfl
  have b_beq := F_beq.binds (ps := ["self", "other"]) fun _ _ _ _ _ _ us hl => match us, hl with | [_, _], _ => rfl
  have b_isth := F_isth.binds (ps := ["self", "thing"]) fun _ _ _ _ _ _ us hl => match us, hl with | [_, _], _ => rfl
  have b_brt := F_brt.binds (ps := ["self", "text"]) fun _ _ _ _ _ _ us hl => match us, hl with | [_, _], _ => rfl
  have b_bneed := F_bneed.binds (ps := ["self", "opening", "thing"]) fun _ _ _ _ _ _ us hl => match us, hl with | [_, _, _], _ => rfl
  have b_rinit := F_rinit.binds (ps := ["self", "book", "things"]) fun _ _ _ _ _ _ us hl => match us, hl with | [_, _, _], _ => rfl
  have b_req := F_req.binds (ps := ["self", "other"]) fun _ _ _ _ _ _ us hl => match us, hl with | [_, _], _ => rfl
  have b_rstr := F_rstr.binds (ps := ["self"]) fun _ _ _ _ _ _ us hl => match us, hl with | [_], _ => rfl
  have b_read := F_read.binds (ps := ["cls", "book", "text"]) fun _ _ _ _ _ _ us hl => match us, hl with | [_, _, _], _ => rfl
  have TD : TxtD mg := ⟨(PySem.W.mg_none_of X G z_int), (PySem.W.mg_none_of X G z_list)⟩
  have TP : TxtP K mg f_draw f_pick := { toTxtD := TD, len := (PySem.W.mg_none_of X G z_len), gD := (PySem.W.mg_of X G a_draw), kD := k_draw, gP := (PySem.W.mg_of X G a_pick), kP := k_pick }
  have TT : TxtT K mg f_draw f_pick f_thing := { toTxtP := TP, range := (PySem.W.mg_none_of X G z_range), gT := (PySem.W.mg_of X G a_thing), kT := k_thing }
  have TW : TxtW mg := { isi := (PySem.W.mg_none_of X G z_isinstance), str := (PySem.W.mg_none_of X G z_str), int := (PySem.W.mg_none_of X G z_int), bool := (PySem.W.mg_none_of X G z_bool), tuple := (PySem.W.mg_none_of X G z_tuple), len := (PySem.W.mg_none_of X G z_len), all := (PySem.W.mg_none_of X G z_all), zip := (PySem.W.mg_none_of X G z_zip), dict := (PySem.W.mg_none_of X G z_dict), longest := ⟨_, PySem.W.mg_of X G g_longest, rI⟩, letters := ⟨_, PySem.W.mg_of X G g_letters, rS⟩ }
  have TB : TxtB K mg f_word f_int f_asc := { toTxtW := TW, gW := (PySem.W.mg_of X G a_word), kW := k_word, gI := (PySem.W.mg_of X G a_int), kI := k_int, gA := (PySem.W.mg_of X G a_asc), kA := k_asc, mostP := ⟨_, PySem.W.mg_of X G g_mostp, rI⟩, mostN := ⟨_, PySem.W.mg_of X G g_mostn, rI⟩ }
  have TWd : TxtWd mg := ⟨(PySem.W.mg_none_of X G z_isinstance), (PySem.W.mg_none_of X G z_str), (PySem.W.mg_none_of X G z_len), (PySem.W.mg_none_of X G z_all), ⟨_, PySem.W.mg_of X G g_longest, rI⟩, ⟨_, PySem.W.mg_of X G g_letters, rS⟩, ⟨_, PySem.W.mg_of X G g_capitals, rS⟩, ⟨_, PySem.W.mg_of X G g_digits, rS⟩⟩
  have TPc : TxtPc mg := ⟨(PySem.W.mg_none_of X G z_list), (PySem.W.mg_none_of X G z_len), (PySem.W.mg_none_of X G z_isinstance), (PySem.W.mg_none_of X G z_tuple)⟩
  have TTx : TxtTx mg := { toTxtPc := TPc, range := (PySem.W.mg_none_of X G z_range), reversed := (PySem.W.mg_none_of X G z_reversed) }
  have TAs : TxtAs mg := ⟨(PySem.W.mg_none_of X G z_dict), (PySem.W.mg_none_of X G z_zip), (PySem.W.mg_none_of X G z_tuple), (PySem.W.mg_none_of X G z_sorted)⟩
  have clB : Cls K CB := ⟨bpg, bhd, bpo, bsa⟩
  have clR : Cls K CR := ⟨rpg, rhd, rpo, rsa⟩
  have TI : TxtI K mg CB f_kinds f_opens := ⟨clB, bnK, bnO, (PySem.W.mg_of X G a_kinds), k_kinds, (PySem.W.mg_of X G a_opens), k_opens⟩
  have TEq : TxtEq K mg CB := ⟨clB, bnK, bnO, (PySem.W.mg_none_of X G z_isinstance), (PySem.W.mg_of X G a_CB), bca, icn, ict, bcm⟩
  have THp : TxtHp K mg f_word := ⟨(PySem.W.mg_none_of X G z_len), (PySem.W.mg_of X G a_word), k_word⟩
  have TIT : TxtIT K mg CB f_has f_word f_name := ⟨clB, bnK, (PySem.W.mg_none_of X G z_dict), (PySem.W.mg_none_of X G z_isinstance), (PySem.W.mg_none_of X G z_tuple), (PySem.W.mg_of X G a_has), k_has, (PySem.W.mg_of X G a_word), k_word, (PySem.W.mg_of X G a_name), k_name⟩
  have TRI : TxtRI K mg CB CR f_isth f_pieces f_texts f_ascd f_name := ⟨clB, ⟨a_isth, i_isth, k_isth⟩, clR, rnB, rnT, rnN, rnP, (PySem.W.mg_none_of X G z_isinstance), (PySem.W.mg_none_of X G z_tuple), (PySem.W.mg_none_of X G z_sorted), (PySem.W.mg_of X G a_pieces), k_pieces, (PySem.W.mg_of X G a_texts), k_texts, (PySem.W.mg_of X G a_ascd), k_ascd, (PySem.W.mg_of X G a_name), k_name⟩
  have TTO : TxtTO K mg f_pieces f_texts := ⟨(PySem.W.mg_none_of X G z_len), (PySem.W.mg_of X G a_pieces), k_pieces, (PySem.W.mg_of X G a_texts), k_texts⟩
  have TRS : TxtRS K mg CR f_textsof := ⟨clR, rnT, (PySem.W.mg_none_of X G z_len), (PySem.W.mg_of X G a_textsof), k_textsof⟩
  have TRE : TxtRE K mg CB CR f_beq f_rstr := ⟨clR, rnB, (PySem.W.mg_none_of X G z_isinstance), (PySem.W.mg_none_of X G z_str), (PySem.W.mg_of X G a_CR), rca, icn, ict, rcm, a_beq, i_beq, a_rstr, i_rstr⟩
  have TTk : TxtTk mg := ⟨(PySem.W.mg_none_of X G z_enumerate)⟩
  have TLb : TxtLB mg := ⟨(PySem.W.mg_none_of X G z_len), (PySem.W.mg_none_of X G z_range), (PySem.W.mg_none_of X G z_reversed)⟩
  have TIp : TxtIP K mg f_word f_name := ⟨(PySem.W.mg_none_of X G z_isinstance), (PySem.W.mg_none_of X G z_tuple), (PySem.W.mg_of X G a_word), k_word, (PySem.W.mg_of X G a_name), k_name⟩
  have TCt : TxtCT K mg f_ip := ⟨(PySem.W.mg_none_of X G z_isinstance), (PySem.W.mg_none_of X G z_str), (PySem.W.mg_none_of X G z_len), (PySem.W.mg_none_of X G z_all), (PySem.W.mg_of X G a_ip), k_ip⟩
  have TTt : TxtTT K mg f_tok f_lb f_ct f_ip := ⟨(PySem.W.mg_none_of X G z_len), (PySem.W.mg_of X G a_tok), k_tok, (PySem.W.mg_of X G a_lb), k_lb, (PySem.W.mg_of X G a_ct), k_ct, (PySem.W.mg_of X G a_ip), k_ip⟩
  have TNi : TxtNI mg := ⟨(PySem.W.mg_none_of X G z_all), (PySem.W.mg_none_of X G z_len), (PySem.W.mg_none_of X G z_int), ⟨_, PySem.W.mg_of X G g_digits, rS⟩⟩
  have TNt : TxtNT K mg f_ni := ⟨(PySem.W.mg_none_of X G z_len), (PySem.W.mg_of X G a_ni), k_ni⟩
  have TS : TxtS K mg CB kk oo := ⟨(PySem.W.mg_of X G a_CB), ⟨_, PySem.W.mg_of X G a_kk, rfl⟩, ⟨_, PySem.W.mg_of X G a_oo, rfl⟩⟩
  have TM : TxtM K mg CB f_nd := { isi := (PySem.W.mg_none_of X G z_isinstance), tuple := (PySem.W.mg_none_of X G z_tuple), cl := clB, nK := bnK, nO := bnO, gN := (PySem.W.mg_of X G a_nd), kN := k_nd }
  have TNd : TxtN mg := ⟨(PySem.W.mg_none_of X G z_isinstance), (PySem.W.mg_none_of X G z_tuple)⟩
  have TRT : TxtRT K mg CB f_tt := ⟨clB, bnK, (PySem.W.mg_none_of X G z_isinstance), (PySem.W.mg_none_of X G z_str), (PySem.W.mg_none_of X G z_dict), (PySem.W.mg_of X G a_tt), k_tt⟩
  have TNR : TxtNR K mg CB f_bneed := ⟨clB, ⟨a_bneed, i_bneed, k_bneed⟩, (PySem.W.mg_none_of X G z_repr), (PySem.W.mg_none_of X G z_isinstance), (PySem.W.mg_none_of X G z_tuple)⟩
  have TL : TxtL K mg CB CR f_deck f_kp f_std f_thing f_nr f_isth f_brt f_beq f_req f_rstr := ⟨clB, clR, bnK, bnO, ⟨a_isth, i_isth, k_isth⟩, ⟨a_brt, i_brt, k_brt⟩, (PySem.W.mg_none_of X G z_range), (PySem.W.mg_none_of X G z_repr), (PySem.W.mg_none_of X G z_str), (PySem.W.mg_none_of X G z_list), (PySem.W.mg_of X G a_CB), (PySem.W.mg_of X G a_CR), ⟨(PySem.W.mg_of X G a_deck), k_deck⟩, ⟨(PySem.W.mg_of X G a_kp), k_kp⟩, ⟨(PySem.W.mg_of X G a_std), k_std⟩, ⟨(PySem.W.mg_of X G a_thing), k_thing⟩, ⟨(PySem.W.mg_of X G a_nr), k_nr⟩, a_beq, i_beq, a_req, i_req, a_rstr, i_rstr⟩
  have TRd : TxtRd K mg CB f_nt f_tt := ⟨clB, bnK, (PySem.W.mg_none_of X G z_isinstance), (PySem.W.mg_none_of X G z_str), (PySem.W.mg_none_of X G z_dict), (PySem.W.mg_none_of X G z_enumerate), (PySem.W.mg_none_of X G z_len), (PySem.W.mg_none_of X G z_tuple), (PySem.W.mg_of X G a_nt), k_nt, (PySem.W.mg_of X G a_tt), k_tt⟩
  refine ⟨(PySem.W.fnOf "law" "law" (defArgs sLaw) (defBody sLaw) (defScope sLaw) .none kV_law dc_law pm_law an_law cd_law ct_law), fun s v => .of_eq rfl, fun base _ _ => ?_⟩
  have GD : FnOk P w K mg base CX0 1 f_draw _ ["_law_deck_here", "_law_below"] spDraw := ok_draw F_draw TD
  have GP := ok_pick F_pick GD b_draw TP
  have Z_thing : FnOk P w K mg base CX0 2 f_thing (PySem.W.fnOf "_law_thing" "_law_thing" (defArgs sThing) (defBody sThing) (defScope sThing) .none kV_thing dc_thing pm_thing an_thing cd_thing ct_thing) ["_law_deck_here", "_law_makes", "_law_leaves", "_law_top", "_law_deep"] (fun _ _ _ _ => False) := ⟨fun _ _ _ _ z => z.elim, fun _ _ _ _ _ _ _ _ _ _ _ _ _ z => z.elim⟩
  have T0 := ok_thing (j := 0) (n := 0) F_thing GD b_draw GP b_pick b_thing TT Z_thing (fun m z => absurd z (by omega))
  have T1 := ok_thing (j := 1) (n := 1) F_thing GD b_draw GP b_pick b_thing TT T0 (fun m z => (by omega : m = 0) ▸ fun _ _ _ _ q => q)
  have T2 := ok_thing (j := 2) (n := 2) F_thing GD b_draw GP b_pick b_thing TT T1 (fun m z => (by omega : m = 1) ▸ fun _ _ _ _ q => q)
  have T3 := ok_thing (j := 3) (n := 3) F_thing GD b_draw GP b_pick b_thing TT T2 (fun m z => (by omega : m = 2) ▸ fun _ _ _ _ q => q)
  have T4 := ok_thing (j := 4) (n := 4) F_thing GD b_draw GP b_pick b_thing TT T3 (fun m z => (by omega : m = 3) ▸ fun _ _ _ _ q => q)
  have T5 := ok_thing (j := 5) (n := 5) F_thing GD b_draw GP b_pick b_thing TT T4 (fun m z => (by omega : m = 4) ▸ fun _ _ _ _ q => q)
  have GW := ok_wordR (P := P) (w := w) (base := base) F_word TWd
  have GNm := ok_name (P := P) (w := w) (base := base) F_name TWd
  have GPc := ok_pieces (P := P) (w := w) (base := base) F_pieces TPc
  have GTx := ok_texts (P := P) (w := w) (base := base) F_texts TTx
  have GAs := ok_ascd (P := P) (w := w) (base := base) F_ascd TAs
  have L : Lows P w K mg base f_word f_int f_asc _ _ _ := ⟨ok_word F_word TW, b_word, ok_int F_int TW, b_int, ok_asc F_asc TW, b_asc⟩
  have GQ := ok_kindQ F_kindq TB L
  have GK := ok_kinds F_kinds TB L GQ b_kindq (PySem.W.mg_of X G a_kindq) k_kindq
  have GO1 := ok_one F_one TB L
  have GNQ := ok_needQ F_needq TB L GO1 b_one (PySem.W.mg_of X G a_one) k_one
  have GOQ := ok_openQ F_openq TB L GNQ b_needq (PySem.W.mg_of X G a_needq) k_needq
  have GO := ok_opens F_opens TB L GOQ b_openq (PySem.W.mg_of X G a_openq) k_openq
  have GB := ok_init (fW := f_word) (fI := f_word) (fA := f_word) F_binit TI TW GK b_kinds GO b_opens
  have MB : Mk K CB f_binit := ⟨bmk, a_binit, i_binit, bkc⟩
  have GBE := ok_eq (P := P) (w := w) (base := base) F_beq TEq
  have GHp := ok_has F_has THp GW b_word
  have GIT := ok_isTh F_isth TIT GHp b_has GW b_word GNm b_name
  have GRI := ok_rInit F_rinit TRI GIT b_isth GPc b_pieces GTx b_texts GAs b_ascd GNm b_name
  have MR : Mk K CR f_rinit := ⟨rmk, a_rinit, i_rinit, rkc⟩
  have GTo := ok_textsOf F_textsof TTO GPc b_pieces GTx b_texts
  have GRS := ok_rStr (CB := CB) F_rstr TRS GTo b_textsof
  have GRE := ok_rEq F_req TRE GBE b_beq GRS b_rstr
  have GTk := ok_tok (P := P) (w := w) (base := base) F_tok TTk
  have GLb := ok_lb (P := P) (w := w) (base := base) F_lb TLb
  have GIp := ok_ip F_ip TIp GW b_word GNm b_name
  have GCt := ok_ct F_ct TCt GIp b_ip
  have GTt := ok_tt F_tt TTt GTk b_tok GLb b_lb GCt b_ct GIp b_ip
  have GNi := ok_ni (P := P) (w := w) (base := base) F_ni TNi
  have GNt := ok_nt F_nt TNt GNi b_ni
  have GRd := ok_rd F_read TRd GNt b_nt GTt b_tt MR GRI b_rinit
  have GSd := ok_std F_std TS S MB GB b_binit
  have GNd := ok_nd (P := P) (w := w) (base := base) F_nd TNd
  have GM := ok_needed F_bneed TM GNd b_nd
  have GRT := ok_rt F_brt TRT GTt b_tt
  have GHN := ok_hasN F_has THp GW b_word
  have GIN := ok_isThN F_isth TIT GHN b_has GW b_word GNm b_name
  have GNR := ok_nr F_nr TNR GM b_bneed
  exact ok_law F_law TL S (ok_deck F_deck TD) b_deck (ok_kp F_kp) b_kp GSd b_std T5 b_thing GNR b_nr GIT GIN b_isth GRT b_brt GBE b_beq GRE b_req GRS b_rstr MB GB b_binit MR GRI b_rinit ⟨cr1_read, cr2_read⟩ ⟨cm1_read, ⟨_, cm2_read⟩, cm3_read⟩ GRd b_read
end
end K12

open PySem PySem.W PyProof.Rows
set_option Elab.async false
set_option maxRecDepth 100000 in
set_option maxHeartbeats 0 in
theorem PySem.Challenge.cw_sealedalike_k12_the_standard_book_holds : PySem.Challenge.rw_sealedalike_k12_the_standard_book.Holds := by
  w_on; o_law; k_head; (case hw => w_witness2)
  k_fill
  refine Mine.walkG (l := PySem.Challenge.rw_sealedalike_k12_the_standard_book) (k := 12) (n := 63) (x := "_law_script") (sp := K12.spLaw) rfl (by decide) rfl ⟨rfl, by decide, by decide⟩ (fun w h Y => PySem.W.kIn_of Y) ?F (fun K H a ns hl _ hS => ⟨a, ns, rfl, hS, hl, fun _ => rfl⟩)
  case F =>
    intro w mg fa h KX G hmg
    refine' K12.all_mk KX G hmg ?q9a_deck ?q9l_deck ?q9c_deck ?q9k_deck ?q9a_draw ?q9l_draw ?q9c_draw ?q9k_draw ?q9a_pick ?q9l_pick ?q9c_pick ?q9k_pick ?q9a_thing ?q9l_thing ?q9c_thing ?q9k_thing ?q9a_kp ?q9l_kp ?q9c_kp ?q9k_kp ?q9a_nr ?q9l_nr ?q9c_nr ?q9k_nr ?q9a_law ?q9l_law ?q9c_law ?q9k_law ?q9a_word ?q9l_word ?q9c_word ?q9k_word ?q9a_name ?q9l_name ?q9c_name ?q9k_name ?q9a_pieces ?q9l_pieces ?q9c_pieces ?q9k_pieces ?q9a_texts ?q9l_texts ?q9c_texts ?q9k_texts ?q9a_ascd ?q9l_ascd ?q9c_ascd ?q9k_ascd ?q9a_textsof ?q9l_textsof ?q9c_textsof ?q9k_textsof ?q9a_int ?q9l_int ?q9c_int ?q9k_int ?q9a_asc ?q9l_asc ?q9c_asc ?q9k_asc ?q9a_kinds ?q9l_kinds ?q9c_kinds ?q9k_kinds ?q9a_kindq ?q9l_kindq ?q9c_kindq ?q9k_kindq ?q9a_opens ?q9l_opens ?q9c_opens ?q9k_opens ?q9a_openq ?q9l_openq ?q9c_openq ?q9k_openq ?q9a_needq ?q9l_needq ?q9c_needq ?q9k_needq ?q9a_one ?q9l_one ?q9c_one ?q9k_one ?q9a_has ?q9l_has ?q9c_has ?q9k_has ?q9a_nd ?q9l_nd ?q9c_nd ?q9k_nd ?q9a_std ?q9l_std ?q9c_std ?q9k_std ?q9a_tok ?q9l_tok ?q9c_tok ?q9k_tok ?q9a_lb ?q9l_lb ?q9c_lb ?q9k_lb ?q9a_ip ?q9l_ip ?q9c_ip ?q9k_ip ?q9a_ct ?q9l_ct ?q9c_ct ?q9k_ct ?q9a_tt ?q9l_tt ?q9c_tt ?q9k_tt ?q9a_ni ?q9l_ni ?q9c_ni ?q9k_ni ?q9a_nt ?q9l_nt ?q9c_nt ?q9k_nt ?q9a_CB ?q9a_CR ?q9a_binit ?q9i_binit ?q9l_binit ?q9c_binit ?q9k_binit ?q9a_beq ?q9i_beq ?q9l_beq ?q9c_beq ?q9k_beq ?q9a_isth ?q9i_isth ?q9l_isth ?q9c_isth ?q9k_isth ?q9a_brt ?q9i_brt ?q9l_brt ?q9c_brt ?q9k_brt ?q9a_bneed ?q9i_bneed ?q9l_bneed ?q9c_bneed ?q9k_bneed ?q9a_rinit ?q9i_rinit ?q9l_rinit ?q9c_rinit ?q9k_rinit ?q9a_req ?q9i_req ?q9l_req ?q9c_req ?q9k_req ?q9a_rstr ?q9i_rstr ?q9l_rstr ?q9c_rstr ?q9k_rstr ?q9cr1_read ?q9cr2_read ?q9cm1_read ?q9cm2_read ?q9cm3_read ?q9l_read ?q9c_read ?q9k_read ?q9bpg ?q9bhd ?q9bpo ?q9bsa ?q9bmk ?q9bkc ?q9bnK ?q9bnO ?q9bca ?q9bcm ?q9rpg ?q9rhd ?q9rpo ?q9rsa ?q9rmk ?q9rkc ?q9rnB ?q9rnT ?q9rnN ?q9rnP ?q9rca ?q9rcm ?q9icn ?q9ict ?q9g_longest ?q9g_letters ?q9g_capitals ?q9g_digits ?q9g_mostp ?q9g_mostn ?q9z_int ?q9z_list ?q9z_range ?q9z_tuple ?q9z_isinstance ?q9z_repr ?q9z_str ?q9z_bool ?q9z_len ?q9z_all ?q9z_zip ?q9z_dict ?q9z_sorted ?q9z_reversed ?q9z_enumerate ?q9a_kk ?q9a_oo ?q9std
    (case q9a_deck => k_is)
    (case q9l_deck => k_is)
    (case q9c_deck => k_is)
    (case q9k_deck => k_is)
    (case q9a_draw => k_is)
    (case q9l_draw => k_is)
    (case q9c_draw => k_is)
    (case q9k_draw => k_is)
    (case q9a_pick => k_is)
    (case q9l_pick => k_is)
    (case q9c_pick => k_is)
    (case q9k_pick => k_is)
    (case q9a_thing => k_is)
    (case q9l_thing => k_is)
    (case q9c_thing => k_is)
    (case q9k_thing => k_is)
    (case q9a_kp => k_is)
    (case q9l_kp => k_is)
    (case q9c_kp => k_is)
    (case q9k_kp => k_is)
    (case q9a_nr => k_is)
    (case q9l_nr => k_is)
    (case q9c_nr => k_is)
    (case q9k_nr => k_is)
    (case q9a_law => k_is)
    (case q9l_law => k_is)
    (case q9c_law => k_is)
    (case q9k_law => k_is)
    (case q9a_word => k_is)
    (case q9l_word => k_is)
    (case q9c_word => k_is)
    (case q9k_word => k_is)
    (case q9a_name => k_is)
    (case q9l_name => k_is)
    (case q9c_name => k_is)
    (case q9k_name => k_is)
    (case q9a_pieces => k_is)
    (case q9l_pieces => k_is)
    (case q9c_pieces => k_is)
    (case q9k_pieces => k_is)
    (case q9a_texts => k_is)
    (case q9l_texts => k_is)
    (case q9c_texts => k_is)
    (case q9k_texts => k_is)
    (case q9a_ascd => k_is)
    (case q9l_ascd => k_is)
    (case q9c_ascd => k_is)
    (case q9k_ascd => k_is)
    (case q9a_textsof => k_is)
    (case q9l_textsof => k_is)
    (case q9c_textsof => k_is)
    (case q9k_textsof => k_is)
    (case q9a_int => k_is)
    (case q9l_int => k_is)
    (case q9c_int => k_is)
    (case q9k_int => k_is)
    (case q9a_asc => k_is)
    (case q9l_asc => k_is)
    (case q9c_asc => k_is)
    (case q9k_asc => k_is)
    (case q9a_kinds => k_is)
    (case q9l_kinds => k_is)
    (case q9c_kinds => k_is)
    (case q9k_kinds => k_is)
    (case q9a_kindq => k_is)
    (case q9l_kindq => k_is)
    (case q9c_kindq => k_is)
    (case q9k_kindq => k_is)
    (case q9a_opens => k_is)
    (case q9l_opens => k_is)
    (case q9c_opens => k_is)
    (case q9k_opens => k_is)
    (case q9a_openq => k_is)
    (case q9l_openq => k_is)
    (case q9c_openq => k_is)
    (case q9k_openq => k_is)
    (case q9a_needq => k_is)
    (case q9l_needq => k_is)
    (case q9c_needq => k_is)
    (case q9k_needq => k_is)
    (case q9a_one => k_is)
    (case q9l_one => k_is)
    (case q9c_one => k_is)
    (case q9k_one => k_is)
    (case q9a_has => k_is)
    (case q9l_has => k_is)
    (case q9c_has => k_is)
    (case q9k_has => k_is)
    (case q9a_nd => k_is)
    (case q9l_nd => k_is)
    (case q9c_nd => k_is)
    (case q9k_nd => k_is)
    (case q9a_std => k_is)
    (case q9l_std => k_is)
    (case q9c_std => k_is)
    (case q9k_std => k_is)
    (case q9a_tok => k_is)
    (case q9l_tok => k_is)
    (case q9c_tok => k_is)
    (case q9k_tok => k_is)
    (case q9a_lb => k_is)
    (case q9l_lb => k_is)
    (case q9c_lb => k_is)
    (case q9k_lb => k_is)
    (case q9a_ip => k_is)
    (case q9l_ip => k_is)
    (case q9c_ip => k_is)
    (case q9k_ip => k_is)
    (case q9a_ct => k_is)
    (case q9l_ct => k_is)
    (case q9c_ct => k_is)
    (case q9k_ct => k_is)
    (case q9a_tt => k_is)
    (case q9l_tt => k_is)
    (case q9c_tt => k_is)
    (case q9k_tt => k_is)
    (case q9a_ni => k_is)
    (case q9l_ni => k_is)
    (case q9c_ni => k_is)
    (case q9k_ni => k_is)
    (case q9a_nt => k_is)
    (case q9l_nt => k_is)
    (case q9c_nt => k_is)
    (case q9k_nt => k_is)
    (case q9a_CB => k_is)
    (case q9a_CR => k_is)
    (case q9a_binit => k_is)
    (case q9i_binit => k_is)
    (case q9l_binit => k_is)
    (case q9c_binit => k_is)
    (case q9k_binit => k_is)
    (case q9a_beq => k_is)
    (case q9i_beq => k_is)
    (case q9l_beq => k_is)
    (case q9c_beq => k_is)
    (case q9k_beq => k_is)
    (case q9a_isth => k_is)
    (case q9i_isth => k_is)
    (case q9l_isth => k_is)
    (case q9c_isth => k_is)
    (case q9k_isth => k_is)
    (case q9a_brt => k_is)
    (case q9i_brt => k_is)
    (case q9l_brt => k_is)
    (case q9c_brt => k_is)
    (case q9k_brt => k_is)
    (case q9a_bneed => k_is)
    (case q9i_bneed => k_is)
    (case q9l_bneed => k_is)
    (case q9c_bneed => k_is)
    (case q9k_bneed => k_is)
    (case q9a_rinit => k_is)
    (case q9i_rinit => k_is)
    (case q9l_rinit => k_is)
    (case q9c_rinit => k_is)
    (case q9k_rinit => k_is)
    (case q9a_req => k_is)
    (case q9i_req => k_is)
    (case q9l_req => k_is)
    (case q9c_req => k_is)
    (case q9k_req => k_is)
    (case q9a_rstr => k_is)
    (case q9i_rstr => k_is)
    (case q9l_rstr => k_is)
    (case q9c_rstr => k_is)
    (case q9k_rstr => k_is)
    (case q9cr1_read => k_is)
    (case q9cr2_read => k_is)
    (case q9cm1_read => k_is)
    (case q9cm2_read => k_is)
    (case q9cm3_read => k_is)
    (case q9l_read => k_is)
    (case q9c_read => k_is)
    (case q9k_read => k_is)
    (case q9bpg => k_is)
    (case q9bhd => k_is)
    (case q9bpo => k_is)
    (case q9bsa => k_is)
    (case q9bmk => k_is)
    (case q9bkc => k_is)
    (case q9bnK => k_is)
    (case q9bnO => k_is)
    (case q9bca => k_is)
    (case q9bcm => k_is)
    (case q9rpg => k_is)
    (case q9rhd => k_is)
    (case q9rpo => k_is)
    (case q9rsa => k_is)
    (case q9rmk => k_is)
    (case q9rkc => k_is)
    (case q9rnB => k_is)
    (case q9rnT => k_is)
    (case q9rnN => k_is)
    (case q9rnP => k_is)
    (case q9rca => k_is)
    (case q9rcm => k_is)
    (case q9icn => k_is)
    (case q9ict => k_is)
    (case q9g_longest => k_is)
    (case q9g_letters => k_is)
    (case q9g_capitals => k_is)
    (case q9g_digits => k_is)
    (case q9g_mostp => k_is)
    (case q9g_mostn => k_is)
    (case q9z_int => k_is)
    (case q9z_list => k_is)
    (case q9z_range => k_is)
    (case q9z_tuple => k_is)
    (case q9z_isinstance => k_is)
    (case q9z_repr => k_is)
    (case q9z_str => k_is)
    (case q9z_bool => k_is)
    (case q9z_len => k_is)
    (case q9z_all => k_is)
    (case q9z_zip => k_is)
    (case q9z_dict => k_is)
    (case q9z_sorted => k_is)
    (case q9z_reversed => k_is)
    (case q9z_enumerate => k_is)
    (case q9a_kk => k_is)
    (case q9a_oo => k_is)
    case q9std =>
      refine' K12.std_mk ?q8l_kk ?q8l_ka0 ?q8l_ka1 ?q8l_ka2 ?q8l_ka3 ?q8l_ka4 ?q8l_ka5 ?q8l_oo ?q8l_oa0 ?q8l_ob0 ?q8l_oa1 ?q8l_ob1 ?q8l_oc1 ?q8l_oa2 ?q8l_ob2 ?q8l_oa3 ?q8l_ob3 ?q8l_oa4 ?q8l_ob4 ?q8l_oc4 ?q8l_oa5 ?q8l_ob5 ?q8l_oc5
      (case q8l_kk => k_is)
      (case q8l_ka0 => k_is)
      (case q8l_ka1 => k_is)
      (case q8l_ka2 => k_is)
      (case q8l_ka3 => k_is)
      (case q8l_ka4 => k_is)
      (case q8l_ka5 => k_is)
      (case q8l_oo => k_is)
      (case q8l_oa0 => k_is)
      (case q8l_ob0 => k_is)
      (case q8l_oa1 => k_is)
      (case q8l_ob1 => k_is)
      (case q8l_oc1 => k_is)
      (case q8l_oa2 => k_is)
      (case q8l_ob2 => k_is)
      (case q8l_oa3 => k_is)
      (case q8l_ob3 => k_is)
      (case q8l_oa4 => k_is)
      (case q8l_ob4 => k_is)
      (case q8l_oc4 => k_is)
      (case q8l_oa5 => k_is)
      (case q8l_ob5 => k_is)
      (case q8l_oc5 => k_is)

