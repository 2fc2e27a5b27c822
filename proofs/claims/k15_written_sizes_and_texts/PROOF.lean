import PyProof.Rows.All
import Wide.All
import OpenK.AllK
import Wide.FinOn
import PyProof.ReprRoads
import KE.KExcIs
import KE.KExcInit
import HandS.ForMost
import HandS.Exc
import HandS.TryMany
import HandS.ExcOwn
import HandS.ExcInit
import HandS.IsInst
import HandS.Style
import HandS.ExcValue
import KE.KDictPairs
import HandS.OwnEq
import KE.KCallOwn
import HandS.ClsMeth
import HandS.More
import KE.GoesEnumKw
import HandS.Text
import PyProof.ReprText
import HandS.SetTxt0
import HandS.SetBool
import HandS.Strs
import PyProof.Rows.SortShellAny
import KE.KDictZip
import HandS.Conv
import HandS.SetFor
import PyProof.SumWalkG
import PyProof.FactsAll.subtypes_4
import PyProof.Rows.SeqMore
import PyProof.InstEq
import PyProof.FactsAll.range_iterator_1
import HandS.RevTup
import KE.GoesMore
import KE.GoesEnum
import HandS.Walk
import HandS.SortRule
import HandS.Star
import HandS.Deep
import HandS.RaiseMore
import HandS.StrMore
import HandS.MapJoin
import HandS.Codes
import HandS.Steps
import HandS.TupAny
import PyProof.StrLawsRepr
import PySem.Challenge.RW_sealedalike_k15_written_sizes_and_texts
set_option Elab.async false
set_option linter.all false
set_option maxRecDepth 100000
set_option maxHeartbeats 2000000
namespace Mine
open PySem PySem.Spec PyProof.Rows L2

/-- the chain of classes above the package's own errors -/
abbrev chain : List Value := [.type "Exception", .type "BaseException", .type "object"]

/-- what the top says of an error class, whoever reads its instances -/
structure ErrA (K : PySem.W.Frag) (C : Addr) : Prop where
  kp : PySem.W.keepIn K (.ref C) = true
  cl : PySem.W.isClsIn K C = true
  ga : PySem.W.findIn K (.ref C) "__getattribute__" = some (some (.builtin "BaseException.__getattribute__"))
  gg : PySem.W.findIn K (.ref C) "__getattr__" = some none
  su : PySem.W.subIn K (.ref C) (.type "BaseException") = some true
  ca : PySem.W.findIn K (.ref C) "__class__" = some (some (.builtin "object.__class__"))
  cn : PySem.W.specialIn K (.builtin "object.__class__") "__get__" = some (some (.builtin "getset_descriptor.__get__"))
  ct : PySem.W.takesIn K (.builtin "object.__class__") = some true
  cm : PySem.W.mroIn K C (.type "object") = some true
  ty : PySem.W.typeIn K (.ref C) = some (.type "type")
  hd : PySem.W.hasDictIn K C = true

/-- an error object at a, of the class at C: bare, or with its dict -/
def EAt (H : Hp) (a C : Addr) : Option (Addr × List (Str × V)) → Prop
  | none => H a = some (exo a C none)
  | some (dx, fs) => H a = some (exo a C (some dx)) ∧ H dx = some (exd dx fs)

theorem EAt.inst {X : Cx} {pins : List (Addr × Obj)} {σ : L2.St} {H : Hp} {s : Shared} {a C : Addr} {o : Option (Addr × List (Str × V))} (I : Inv X pins σ H s) (h : EAt H a C o) :
    ∃ ox od, PySem.W.InstAt s.heap a ox C od := by
  cases o with
  | none =>
    obtain ⟨t, e⟩ := exo_at I.hok h
    exact ⟨_, none, e, rfl, rfl, trivial⟩
  | some p =>
    obtain ⟨dx, fs⟩ := p
    obtain ⟨t, e⟩ := exo_at I.hok h.1
    obtain ⟨m, ⟨od, es, ep, e2, _⟩, _⟩ := exd_at I.hok h.2
    exact ⟨_, some od, e, rfl, rfl, e2⟩

/-! isinstance of an error that is held -/
def rIs (K : PySem.W.Frag) : List V → Hp → VK → Prop := fun xs H Q => ∃ (a C : Addr) (o : Option (Addr × List (Str × V))) (c : V) (u : Value) (b : Bool),
  xs = [.ref a, c] ∧ EAt H a C o ∧ ErrA K C ∧ ClsV c u ∧ PySem.W.kitOne K (.ref C) u = some b ∧ Q (.bl b) H
def rIsMany (K : PySem.W.Frag) : List V → Hp → VK → Prop := fun xs H Q => ∃ (a C tp : Addr) (o : Option (Addr × List (Str × V))) (cs : List V) (us : List Value) (b : Bool),
  xs = [.ref a, .ref tp] ∧ EAt H a C o ∧ ErrA K C ∧ H tp = some (.tup cs) ∧ Paired ClsV cs us ∧ PySem.W.kitAny K (.ref C) us = some b ∧ Q (.bl b) H
theorem isOne {X : Cx} : CallR X (.builtin "isinstance") (rIs X.K) := by
  intro pins s σ H xs us Q I r h
  obtain ⟨a, C, o, c, u, b, rfl, ha, T, k, e, q⟩ := h
  obtain ⟨u1, u2, rfl, r1, r2⟩ := vals2 r
  have e2 := k.eq r2
  subst e2
  cases (show u1 = Value.ref a from r1)
  obtain ⟨ox, od, J⟩ := ha.inst I
  have Z : PySem.W.KitX X.K (.ref a) (.ref C) (fun h => PySem.W.InstAt h a ox C od) := PySem.W.kitx_exc T.cl T.ga T.gg T.su T.ca T.cn T.ct T.cm
  exact PySem.W.kia_one Z I.kIn J e (fun z => nomatch z) fun tk => ⟨.bl b, H, I.tok tk, rfl, q⟩
theorem isMany {X : Cx} : CallR X (.builtin "isinstance") (rIsMany X.K) := by
  intro pins s σ H xs us Q I r h
  obtain ⟨a, C, tp, o, cs, ws, b, rfl, ha, T, hT, k, e, q⟩ := h
  obtain ⟨u1, u2, rfl, r1, r2⟩ := vals2 r
  cases (show u1 = Value.ref a from r1)
  cases (show u2 = Value.ref tp from r2)
  obtain ⟨ox, od, J⟩ := ha.inst I
  obtain ⟨_, its, rv, o', h1, h2, n, h3⟩ := (show ObjOk X.prog X.w H s.heap tp (.tup cs) from I.hok tp _ hT)
  have e3 := ClsV.all k rv
  subst e3
  obtain ⟨oc, od', dt, sl⟩ := o'
  simp only at h2 h3
  subst h2 h3
  have Z : PySem.W.KitX X.K (.ref a) (.ref C) (fun h => PySem.W.InstAt h a ox C od) := PySem.W.kitx_exc T.cl T.ga T.gg T.su T.ca T.cn T.ct T.cm
  exact PySem.W.kia_tup Z I.kIn J h1 e (fun z => nomatch z) fun tk => ⟨.bl b, H, I.tok tk, rfl, q⟩

/-! a field of an error that is held -/
def tFld (K : PySem.W.Frag) (n : Str) (te : TE) : TE := fun σ H Q => te σ H fun x H1 => ∃ (a C dx : Addr) (fs : List (Str × V)) (v : V), x = .ref a ∧ EAt H1 a C (some (dx, fs)) ∧ ErrA K C ∧ PySem.W.findIn K (.ref C) n = some none ∧ fs.lookup n = some v ∧ Q v H1
theorem pe_efld {X : Cx} {e : Expr} {te : TE} {pos : Pos} {n : Str} (he : PE X e te) (hb : attributeBase e n X.env (eval e X.env) = eval e X.env := by rfl) : PE X (.Attribute e n pos) (tFld X.K n te) := by
  refine ⟨fun pins s σ H Q I h => ?_⟩
  refine attr_of hb (thn (he.run pins s σ H _ I h) fun u s1 hh => ?_)
  obtain ⟨x, H1, I1, rx, a, C, dx, fs, v, ex, ea, T, hno, l, q⟩ := hh
  subst ex
  obtain rfl : u = Value.ref a := rx
  obtain ⟨t, hx⟩ := exo_at I1.hok ea.1
  obtain ⟨mA, hns, hr⟩ := exd_at I1.hok ea.2
  obtain ⟨od, ho, hl⟩ := lookIn_ns hns
  obtain ⟨u, hu, ru⟩ := RelO.some_of (v := v) (o := mA n) (by rw [← l]; exact hr n)
  have J : PySem.W.InstAt s1.heap a _ C (some od) := ⟨hx, rfl, rfl, ho⟩
  exact HandSPX.exc_get I1.kIn J T.ga T.gg T.su (PySem.W.findObj_own T.hd hno rfl (by rw [hl, hu])) (handed_of ru) ⟨v, H1, I1.tok _, ru, q⟩

/-! two new objects beside all that was there: an error and its dict -/
theorem inv_two {X : Cx} {pins : List (Addr × Obj)} {σ : L2.St} {H : Hp} {s : Shared} {h' : Heap} {a dx : Addr} {o u : HO} {tk : Nat} (I : Inv X pins σ H s) (k : ∀ b z, s.heap.get? b = some z → h'.get? b = some z) (ha : s.heap.objs.size ≤ a) (hd : s.heap.objs.size ≤ dx) (ne : dx ≠ a)
    (oa : ObjOk X.prog X.w (upd (upd H dx u) a o) h' a o) (ou : ObjOk X.prog X.w (upd (upd H dx u) a o) h' dx u) : Inv X pins σ (upd (upd H dx u) a o) { s with heap := h', toks := tk } := by
  have na := I.hok.fresh ha
  have nd := I.hok.fresh hd
  have kept : ∀ {b : Addr} {z : HO}, H b = some z → upd (upd H dx u) a o b = some z := fun {b z} e => by
    rw [upd_ne (ne_of_none e na), upd_ne (ne_of_none e nd)]
    exact e
  have un : Un X.fs [] H (upd (upd H dx u) a o) s.heap h' := {
    keep := fun b z e _ _ _ => k b z e
    slot := fun b z e _ _ _ => ⟨z.slots, k b z e⟩
    free := fun b z e n _ => by
      have lt := Heap.lt_size e
      rw [upd_ne (Nat.ne_of_lt (Nat.lt_of_lt_of_le lt ha)), upd_ne (Nat.ne_of_lt (Nat.lt_of_lt_of_le lt hd))]
      exact n
    there := fun b z e _ => ⟨z, k b z e⟩
    tups := fun _ _ e => kept e
    frzs := fun _ _ _ e => kept e
    tbls := fun b ps e => ⟨#[], by rw [kept e, Array.append_empty]⟩ }
  refine I.un (t' := tk) un fun b z e => ?_
  by_cases hb : b = a
  · subst hb
    rw [upd_same] at e
    cases e
    exact oa
  · rw [upd_ne hb] at e
    by_cases hbd : b = dx
    · subst hbd
      rw [upd_same] at e
      cases e
      exact ou
    · rw [upd_ne hbd] at e
      exact (I.hok b z e).stay (fun c v _ y => k c v y) (fun _ y => kept y) fun _ _ y => kept y
end Mine

set_option Elab.async false
set_option linter.all false
set_option maxRecDepth 100000
set_option maxHeartbeats 4000000
/-! An error class over Exception, called with values and names: the object is made, then its own __init__ runs. -/
namespace Mine
open PySem PySem.Spec L2
section
variable {prog : Program} {w : World} {M : Model} {A : Around} {E : Value → Shared → Prop} {R : Result → Shared → Prop} {h : Heap} {g : Array GenState} {d : Drawn} {t : Nat} {os : OsState}
variable {nm q : Str} {C N : Addr} {bs bm bmB : List Value} {hdct : Bool} {sn : List Str} {sub : List Value} {ab : Bool} {col : Option Bool} {dd : Option Addr} {k0 k1 k2 k3 k5 : Option Value} {B newId initId : String}
/-- the object alone -/
abbrev bareE (C t : Addr) : Obj := HandSPX.excO C t
theorem newOk_kw (F : ExcBaseFacts B newId initId bmB) (hT : ∀ X : String, bm.contains (.type X) = bmB.contains (.type X)) {rest : List Value} {kw : List (Str × Value)} {Q : Unit → Shared → Prop}
    (hC : h.get? C = some (excClassObj nm q C N bs bm hdct sn sub ab col dd k0 k1 k2 k3 k5 newId)) (z : Q () ⟨h, g, d, t, os⟩) : wpAny M A (checkBuiltinCall newId ⟨.ref C :: rest, kw⟩) Q E ⟨h, g, d, t, os⟩ := by
  have has : (Value.ref C :: bm).contains (.type B) = true := by rw [List.contains_cons, hT, F.hasB, Bool.or_true]
  have st := F.noStar
  simp only [checkBuiltinCall, F.newKind, F.newSplit, F.newRow]
  repeat (first | refine wpAny_loadPart_at hC ?_ | (refine wpAny_isSubtype_exc hC ?_; rw [has]) | refine wpAny_staticBase_exc hC ?_ | refine wpAny_madeBy_exc hC ?_ | simp only [bne_self_eq_false, Bool.false_eq_true, if_false] | wp_step)
  exact z
theorem newRun_kw (F : ExcBaseFacts B newId initId bmB) (hT : ∀ X : String, bm.contains (.type X) = bmB.contains (.type X)) {rest : List Value} {kw : List (Str × Value)}
    (hC : h.get? C = some (excClassObj nm q C N bs bm hdct sn sub ab col dd k0 k1 k2 k3 k5 newId)) (fits : rest.length ≤ sizeLine)
    (z : R (.ok (.ret (.ref (h.objs.size + 1)))) ⟨(h.push (W.kdv_tup rest)).push (bareE C h.objs.size), g, d, t, os⟩) :
    codeAny (model prog w) A (.builtin newId ⟨.ref C :: rest, kw⟩) R ⟨h, g, d, t, os⟩ := by
  have en := F.ends
  have hB : (Value.ref C :: bm).contains (.type B) = true := by rw [List.contains_cons, hT, F.hasB, Bool.or_true]
  have hA : (Value.ref C :: bm).contains (.type "AttributeError") = false := by rw [List.contains_cons, hT, F.noAttr]; rfl
  have hN : (Value.ref C :: bm).contains (.type "NameError") = false := by rw [List.contains_cons, hT, F.noName]; rfl
  refine codeAny_builtinAt F.entry ?_
  unfold Builtin.«BaseException.__new__»
  refine wpAt_bind ?_
  show wpAt _ _ _ (stack >>= _) _ _ _
  refine wpAt_bind (wpAt_stack fun p below => wpAt_of_wpAny ?_)
  wp_walk
  refine wpAt_of_wpAny ?_
  rw [F.owner]
  repeat (first | with_reducible refine wpAny_madeHere_exc F.canon hC ?_ | with_reducible refine wpAny_loadPart_at hC ?_ | (with_reducible refine wpAny_isSubtype_exc hC ?_; first | rw [hB] | rw [hA] | rw [hN]) | wp_step)
  show R _ _
  rw [Heap.size_push]
  exact z
theorem typeCall_kw (F : ExcBaseFacts B newId initId bmB) (hT : ∀ X : String, bm.contains (.type X) = bmB.contains (.type X)) {rest : List Value} {kw : List (Str × Value)} {fI : Addr} {Q : Fin → Shared → Prop}
    (hC : h.get? C = some (excClassObj nm q C N bs bm hdct sn sub ab col dd k0 k1 k2 k3 k5 newId)) (fits : rest.length ≤ sizeLine)
    (hi : W.Looks (model prog w) h (typeLookup (.ref C) "__init__") (some (.ref fI))) (hb : ∀ self, W.Looks (model prog w) h (bindSpecial (.ref fI) self) (.ref fI, [self]))
    (z : codeAny (model prog w) A (.call (.ref fI) ⟨.ref (h.objs.size + 1) :: rest, kw⟩)
      (fun r s' => match r with | .ok (.ret v) => v = .none ∧ Q (.done (.ret (.ref (h.objs.size + 1)))) s' | .ok _ => False | .error e => E e s') ⟨(h.push (W.kdv_tup rest)).push (bareE C h.objs.size), g, d, t, os⟩) :
    wpAny (model prog w) A (Builtin.«type.__call__» ⟨.ref C :: rest, kw⟩) Q E ⟨h, g, d, t, os⟩ := by
  repeat (first | with_reducible refine wpAny_loadPart_at hC ?_ | with_reducible refine wpAny_madeBy_exc hC ?_ | wp_step)
  refine codeAny_call_builtin_code (Code.quiet_builtin _ F.quiet) (newOk_kw F hT hC ?_)
  refine newRun_kw F hT hC fits ?_
  show wpAny _ _ _ _ _ _
  have k : ∀ b o, h.get? b = some o → ((h.push (W.kdv_tup rest)).push (bareE C h.objs.size)).get? b = some o := fun b o e => Heap.get?_push_of_some _ (Heap.get?_push_of_some _ e)
  have hC1 := k _ _ hC
  have he : ((h.push (W.kdv_tup rest)).push (bareE C h.objs.size)).get? (h.objs.size + 1) = some (bareE C h.objs.size) := by heap_get
  have own : (Value.ref C :: bm).contains (.ref C) = true := by simp
  have i1 := hi.keeps k
  have b1 := (hb (.ref (h.objs.size + 1))).keeps k
  unfold isInstance
  repeat (first | with_reducible refine wpAny_loadPart_at he ?_ | (with_reducible refine wpAny_isSubtype_exc hC1 ?_; rw [own]) | wp_step)
  show wpAny _ _ (typeLookup (.ref C) _) _ _ _
  refine i1.at ?_
  refine wpAny_holding (wpAny_bind (b1.at ?_))
  refine wpAny_bind (wpAny_call (codeAny_mono z fun r s' y => ?_))
  rcases r with e | (v | _ | _ | _) <;> first | exact y | exact y.elim | skip
  obtain ⟨rfl, y⟩ := y
  first
    | exact wpAny_pure (wpAny_pure y)
    | (wp_walk; exact y)
theorem call_kw (F : ExcBaseFacts B newId initId bmB) (hT : ∀ X : String, bm.contains (.type X) = bmB.contains (.type X)) {rest : List Value} {kw : List (Str × Value)} {fI : Addr}
    (hC : h.get? C = some (excClassObj nm q C N bs bm hdct sn sub ab col dd k0 k1 k2 k3 k5 newId)) (fits : rest.length ≤ sizeLine)
    (hi : W.Looks (model prog w) h (typeLookup (.ref C) "__init__") (some (.ref fI))) (hb : ∀ self, W.Looks (model prog w) h (bindSpecial (.ref fI) self) (.ref fI, [self]))
    (z : codeAny (model prog w) (A.under (.builtin "type.__call__" ⟨.ref C :: rest, kw⟩)) (.call (.ref fI) ⟨.ref (h.objs.size + 1) :: rest, kw⟩) (W.InitBack (h.objs.size + 1) R) ⟨(h.push (W.kdv_tup rest)).push (bareE C h.objs.size), g, d, t, os⟩) :
    codeAny (model prog w) A (.call (.ref C) ⟨rest, kw⟩) R ⟨h, g, d, t, os⟩ := by
  have f1 := tc_lookup
  have f2 := tc_bind (.ref C)
  have hTy : (⟨h, g, d, t, os⟩ : Shared).TypeIs (.ref C) "type" := ⟨_, hC, rfl⟩
  refine codeAny_of_tree ?_
  show wpAny _ _ (callAny (.ref C) _) _ _ _
  repeat (any_goals (first | assumption | with_reducible refine wpAny_loadPart_at hC ?_ | wp_step))
  refine ⟨rfl, ?_⟩
  refine codeAny_call_builtin_at (Code.quiet_builtin _ (by decide +kernel)) entry_typeCall (wpAny_check_type_call_sub hC (typeCall_kw F hT hC fits hi hb ?_))
  refine codeAny_mono z fun r s' y => ?_
  rcases r with e | (v | _ | _ | _) <;> exact y
end
end Mine

set_option Elab.async false
set_option linter.all false
set_option maxRecDepth 100000
set_option maxHeartbeats 4000000
/-! A def __init__(self, f) that stores f, run on a bare error; errors made by value and by name, and raised. -/
namespace Mine
open PySem PySem.Spec L2
/-- the text of such a def -/
structure Ini (q : Str) (st : Stmt) (f : Str) : Prop where
  body : ∃ q1 q2 q3 q4, defBody st = [.Assign [.Attribute (.Name "self" q1) f q2] (.Name f q3) q4]
  names : (defScope st).names = [(PySem.Str.ofString "self", .local), (f, .local)]
  kind : (defScope st).kind = .function
  co : (defScope st).isCoroutine = false
  gen : (defScope st).isGenerator = false
  b1 : ∀ (kV doc pm : Value) (an : Option Addr) (cdv ct x v : Value), bindArgs (PySem.W.fnOf "__init__" q (defArgs st) (defBody st) (defScope st) .none kV doc pm an cdv ct) ⟨[x, v], []⟩ = pure [(PySem.Str.ofString "self", x), (f, v)]
  b2 : ∀ (kV doc pm : Value) (an : Option Addr) (cdv ct x v : Value), bindArgs (PySem.W.fnOf "__init__" q (defArgs st) (defBody st) (defScope st) .none kV doc pm an cdv ct) ⟨[x], [(f, v)]⟩ = pure [(PySem.Str.ofString "self", x), (f, v)]
  ne : (f == (PySem.Str.ofString "self")) = false
  db : (f == (PySem.Str.ofString "__debug__")) = false
/-- an error class with such an __init__, its field f -/
structure ErrF (K : PySem.W.Frag) (mg : Str → Option Value) (x f : Str) (C fI : Addr) : Prop extends ErrA K C where
  g : mg x = some (.ref C)
  new : PySem.W.excInitIn K C chain "Exception.__new__" = true
  over : PySem.W.excOver K C chain = true
  sa : PySem.W.findIn K (.ref C) "__setattr__" = some (some (.builtin "object.__setattr__"))
  tk : PySem.W.takerIn K C f = some none
  no : PySem.W.findIn K (.ref C) f = some none
  ini : PySem.W.findIn K (.ref C) "__init__" = some (some (.ref fI))
  tI : PySem.W.typeIn K (.ref fI) = some (.type "function")
  txt : ∃ (q : Str) (st : Stmt) (fd : FuncData), Fun K "__init__" q st fI fd ∧ Ini q st f
/-- an error class without -/
structure ErrN (K : PySem.W.Frag) (mg : Str → Option Value) (x : Str) (C : Addr) : Prop extends ErrA K C where
  g : mg x = some (.ref C)
  new : PySem.W.excIn K C chain "Exception.__new__" = true

section
variable {prog : Program} {w : World} {A : Around} {E : Value → Shared → Prop} {R : Result → Shared → Prop} {K : PySem.W.Frag} {mg : Str → Option Value} {x f : Str} {C fI : Addr}
/-- an error object, dict and all -/
abbrev fullE (C t dx : Addr) : Obj := { cls := .ref C, dict := some dx, data := .fields #[.ref t, .none, .none, .none, .bool false, .none] }
/-- what the call of __init__ leaves -/
structure Stored (h h' : Heap) (e C t dx : Addr) (f : Str) (v : Value) : Prop where
  keep : ∀ b o, b ≠ e → h.get? b = some o → h'.get? b = some o
  obj : h'.get? e = some (fullE C t dx)
  big : h.objs.size ≤ dx
  ne : dx ≠ e
  ns : h'.Ns1 dx (fun y => if y = f then some v else none)
theorem store_bare (T : ErrF K mg x f C fI) {e t : Addr} {v : Value} {tk : Tok} {s : Shared} (X : K.In s.heap) (he : s.heap.get? e = some (bareE C t))
    (z : ∀ h' tk' dx, Stored s.heap h' e C t dx f v → R (.ok (.ret .none)) { s with heap := h', toks := tk' }) :
    codeAny (model prog w) A (.call (.builtin "object.__setattr__") ⟨[.ref e, .str f tk, v], []⟩) R s := by
  obtain ⟨hp, g, d, tt, os⟩ := s
  have he' : hp.get? e = some (bareE C t) := he
  have X' : K.In hp := X
  have J : PySem.W.InstAt hp e (bareE C t) C none := ⟨he', rfl, rfl, trivial⟩
  have ne : e ≠ hp.objs.size := Nat.ne_of_lt (Heap.lt_size he')
  obtain ⟨cd, hc, hm⟩ := PySem.W.any_some T.hd
  have hcls : PySem.W.Looks (model prog w) hp (classData C) cd := PySem.W.looks_clsIn X' hc
  refine PySem.W.osa_openX (s := ⟨hp, g, d, tt, os⟩) (od := none) PySem.F.store_Exception X J T.over T.tk fun b => ?_
  show wpAny _ _ (Builtin.ObjectAttr.storeInOwnDict (.ref e) (.ref C) (.str f tk) f v b) _ _ _
  obtain ⟨nm, bs, mro, ns, qn, hdd, sn, sb, ab, col, del⟩ := cd
  dsimp only at hm
  subst hm
  have first : hp.get? e = some (bareE C t) → ((hp.push { cls := .type "dict", data := .dict #[] }).update e fun o => { o with dict := some hp.objs.size }).Ns hp.objs.size fun _ => none := fun _ =>
    ⟨_, #[], _, (Heap.get?_update_ne _ _ _ _ ne.symm).trans (Heap.get?_push_at rfl rfl), rfl, fun y hy => absurd hy (by simp), fun _ => rfl⟩
  have last : ∀ (h' : Heap) (tk' : Nat), h'.Ns1 hp.objs.size (fun y => if y = f then some v else none) → Heap.SameBut hp.objs.size ((hp.push { cls := .type "dict", data := .dict #[] }).update e fun o => { o with dict := some hp.objs.size }) h' →
      R (.ok (.ret .none)) ⟨h', g, d, tk', os⟩ := fun h' tk' hn hs => by
    have e1 : (hp.push { cls := .type "dict", data := .dict #[] }).get? e = some (bareE C t) := Heap.get?_push_of_some _ he'
    refine z h' tk' hp.objs.size ⟨fun b o hb ho => ?_, ?_, Nat.le_refl _, ne.symm, hn⟩
    · exact (hs.2 b (Nat.ne_of_lt (Heap.lt_size ho))).trans ((Heap.get?_update_ne _ _ _ _ hb).trans (Heap.get?_push_of_some _ ho))
    · exact (hs.2 e ne).trans (Heap.get?_update_self _ e1 rfl)
  unfold Builtin.ObjectAttr.storeInOwnDict Builtin.ObjectAttr.ownDictForStores
  cases b
  all_goals
    repeat (first | with_reducible refine HandSPX.store_in_new ?_ ?_ | with_reducible refine wpAny_loadPart_at he' ?_ | with_reducible refine hcls.at ?_ | wp_step)
  all_goals first | exact first he' | exact last
theorem find_loc {P : Shared → Prop} {s : Shared} {nm q : Str} {sc : Scope} {L a : Addr} {cd : Value} {m : Str → Option Value} {y : Str} {pos : Pos} {v : Value} {Q : Value → Shared → Prop} (hn : s.heap.Ns L m) (hv : m y = some v) (z : Q v s)
    (hk : sc.kind = .function) (hl : sc.names.lookup y = some .local) (hd : (y == (PySem.Str.ofString "__debug__")) = false) :
    wpAny (model prog w) A (eval (.Name y pos) (PyProof.Rows.envOfC q sc L a cd)) Q E s := wpAny_Name (wpAny_loadName_local hk hl hn hv z) hd
/-- the call of __init__ on a bare error -/
theorem init_run (T : ErrF K mg x f C fI) {e t : Addr} {v : Value} {args : Args} {s : Shared} (X : K.In s.heap) (lim : s.heap.NoLimit) (he : s.heap.get? e = some (bareE C t)) (room : A.depth < recursionLimit)
    (hargs : args = ⟨[.ref e, v], []⟩ ∨ args = ⟨[.ref e], [(f, v)]⟩)
    (z : ∀ h' tk' dx, Stored s.heap h' e C t dx f v → R (.ok (.ret .none)) { s with heap := h', toks := tk' }) :
    codeAny (model prog w) A (.call (.ref fI) args) R s := by
  obtain ⟨q, st, fd, F, T1⟩ := T.txt
  obtain ⟨oc, od, kV, doc, pm, an, cdv, ct, osl, rfl, lk, hcd⟩ := F.ex
  obtain ⟨q1, q2, q3, q4, hb⟩ := T1.body
  have lS : (defScope st).names.lookup (PySem.Str.ofString "self") = some .local := by rw [T1.names]; rfl
  have lF : (defScope st).names.lookup f = some .local := by
    rw [T1.names]
    simp only [List.lookup, T1.ne]
    simp
  have bind : BindsTo s (PySem.W.fnOf "__init__" q (defArgs st) (defBody st) (defScope st) .none kV doc pm an cdv ct) args [(PySem.Str.ofString "self", .ref e), (f, v)] := by
    rcases hargs with rfl | rfl
    · exact BindsTo.of_eq (T1.b1 ..)
    · exact BindsTo.of_eq (T1.b2 ..)
  refine Att.call_fn X lim lk hcd room bind ?_ (fun s1 IC => ?_) T1.co T1.gen T1.kind
  · simp only [List.all_cons, List.all_nil, lS, lF]
    rfl
  · obtain ⟨h1, tk1, rfl⟩ := IC.toInCall.same
    have k : ∀ b o, s.heap.get? b = some o → h1.get? b = some o := IC.toInCall.keep
    have hn := IC.toInCall.ns
    have lt := Heap.lt_size he
    have mS : bindL (PyProof.Rows.envOfC q (defScope st) s.heap.objs.size fI cdv).kindOf (([PySem.Str.ofString "self", f] : List Str).zip [Value.ref e, v]) (fun _ => none) (PySem.Str.ofString "self") = some (.ref e) := by
      refine bindL_get (P := [PySem.Str.ofString "self", f]) (vs := [.ref e, v]) (i := 0) ?_ rfl rfl lS
      exact List.nodup_cons.mpr ⟨fun q => by
        have e2 : PySem.Str.ofString "self" = f := by simpa using q
        have := T1.ne
        rw [← e2] at this
        simp at this, List.nodup_cons.mpr ⟨by simp, List.nodup_nil⟩⟩
    have mF : bindL (PyProof.Rows.envOfC q (defScope st) s.heap.objs.size fI cdv).kindOf (([PySem.Str.ofString "self", f] : List Str).zip [Value.ref e, v]) (fun _ => none) f = some v := by
      refine bindL_get (P := [PySem.Str.ofString "self", f]) (vs := [.ref e, v]) (i := 1) ?_ rfl rfl lF
      exact List.nodup_cons.mpr ⟨fun q => by
        have e2 : PySem.Str.ofString "self" = f := by simpa using q
        have := T1.ne
        rw [← e2] at this
        simp at this, List.nodup_cons.mpr ⟨by simp, List.nodup_nil⟩⟩
    rw [hb]
    show wpAny _ _ (execs _ _) _ _ _
    refine wpAny_execs_cons (plainObj_wpAny_Assign_Attribute ?_)
    refine find_loc (P := fun _ => True) (nm := "__init__") hn mF (find_loc (P := fun _ => True) (nm := "__init__") hn mS ?_ T1.kind lS (by decide)) T1.kind lF T1.db
    refine PySem.W.set_plain (X.keeps k) (ox := bareE C t) (od := none) ⟨k _ _ he, rfl, rfl, trivial⟩ T.sa ?_
    refine store_bare T (s := { s with heap := h1, toks := tk1 + 1 }) (X.keeps k) (k _ _ he) fun h3 tk3 dx S => ?_
    show wpAny _ _ (execs _ _) _ _ _
    have z1 : s.heap.objs.size < h1.objs.size := hn.lt
    exact wpAny_execs_nil (z h3 tk3 dx ⟨fun b o hb2 e2 => S.keep b o hb2 (k b o e2), S.obj, Nat.le_of_lt (Nat.lt_of_lt_of_le z1 S.big), S.ne, S.ns⟩)
end
end Mine

set_option Elab.async false
set_option linter.all false
set_option maxRecDepth 100000
set_option maxHeartbeats 4000000
/-! Errors made as values (by position, by name, without anything), and raised. -/
namespace Mine
open PySem PySem.Spec L2
/-- a new error e with its dict dx: all that stood stands -/
structure MadeE (h h' : Heap) (e C t dx : Addr) (f : Str) (v : Value) : Prop where
  keep : ∀ b o, h.get? b = some o → h'.get? b = some o
  new : h.objs.size ≤ e
  obj : h'.get? e = some (fullE C t dx)
  big : h.objs.size ≤ dx
  ne : dx ≠ e
  ns : h'.Ns1 dx (fun y => if y = f then some v else none)
section
variable {prog : Program} {w : World} {A : Around} {E : Value → Shared → Prop} {R : Result → Shared → Prop} {K : PySem.W.Frag} {mg : Str → Option Value} {x f : Str} {C fI : Addr}
theorem call_err (T : ErrF K mg x f C fI) {v : Value} {us : List Value} {kw : List (Str × Value)} {s : Shared} (X : K.In s.heap) (lim : s.heap.NoLimit) (room : A.depth + 1 < recursionLimit) (ha : (us = [v] ∧ kw = []) ∨ (us = [] ∧ kw = [(f, v)]))
    (z : ∀ h' tk e t dx, MadeE s.heap h' e C t dx f v → R (.ok (.ret (.ref e))) { s with heap := h', toks := tk }) :
    codeAny (model prog w) A (.call (.ref C) ⟨us, kw⟩) R s := by
  obtain ⟨nm, N, qn, bs, bm, hdct, sn, sub, ab, col, dd, k0, k1, k2, k3, k5, hC, hT⟩ := PySem.W.excInit_of X T.new
  obtain ⟨hp, g, d, tk, os⟩ := s
  have hs : us.length ≤ sizeLine := by
    rw [sizeLine_eq]
    rcases ha with ⟨rfl, _⟩ | ⟨rfl, _⟩ <;> simp
  have k : ∀ b o, hp.get? b = some o → ((hp.push (PySem.W.kdv_tup us)).push (bareE C hp.objs.size)).get? b = some o := fun b o e => Heap.get?_push_of_some _ (Heap.get?_push_of_some _ e)
  have he : ((hp.push (PySem.W.kdv_tup us)).push (bareE C hp.objs.size)).get? (hp.objs.size + 1) = some (bareE C hp.objs.size) := by heap_get
  have Xh : K.In hp := X
  refine call_kw PySem.F.excBase_Exception hT hC hs (PySem.W.looks_findIn Xh T.ini) (fun self => PySem.W.bind_fn Xh self T.tI) ?_
  refine init_run T (v := v) (s := ⟨_, g, d, tk, os⟩) (Xh.keeps k) (PySem.Heap.NoLimit.keeps lim k) he ?_ ?_ fun h' tk' dx S => ?_
  · show A.depth + 1 < recursionLimit
    exact room
  · rcases ha with ⟨rfl, rfl⟩ | ⟨rfl, rfl⟩
    · exact .inl rfl
    · exact .inr rfl
  · have big : hp.objs.size + 1 + 1 ≤ dx := by
      have q := S.big
      simp only [Heap.size_push] at q
      exact q
    exact ⟨rfl, z h' tk' (hp.objs.size + 1) hp.objs.size dx ⟨fun b o e => S.keep b o (Nat.ne_of_lt (Nat.lt_succ_of_lt (Heap.lt_size e))) (k b o e), Nat.le_succ _, S.obj, Nat.le_trans (Nat.le_trans (Nat.le_succ _) (Nat.le_succ _)) big, S.ne, S.ns⟩⟩
end
section
variable {X : Cx} {x f : Str} {C fI : Addr} {e : Expr} {te : TE} {p pos kpos : Pos}
/-- the heap with the new error -/
def eUp (H : Hp) (a dx C : Addr) (f : Str) (v : V) : Hp := upd (upd H dx (exd dx [(f, v)])) a (exo a C (some dx))
theorem eUp_at {H : Hp} {a dx C : Addr} {f : Str} {v : V} (ne : dx ≠ a) : EAt (eUp H a dx C f v) a C (some (dx, [(f, v)])) := ⟨upd_same, by unfold eUp; rw [upd_ne ne, upd_same]⟩
theorem eUp_ne {H : Hp} {a dx C b : Addr} {f : Str} {v : V} (h1 : b ≠ a) (h2 : b ≠ dx) : eUp H a dx C f v b = H b := by unfold eUp; rw [upd_ne h1, upd_ne h2]
def tErr (C : Addr) (f : Str) (ta : TA) : TE := fun σ H Q => ta σ H fun vs H1 => ∃ v, vs = [v] ∧ ∀ a dx, H1 a = none → H1 dx = none → dx ≠ a → Q (.ref a) (eUp H1 a dx C f v)
theorem err_back {pins : List (Addr × Obj)} {σ : L2.St} {H1 : Hp} {s1 : Shared} {v : V} {u : Value} {Q : VK} (T : ErrF X.K X.mg x f C fI) (I1 : L2.Inv X pins σ H1 s1) (rv : L2.RelV v u) (q : ∀ a dx, H1 a = none → H1 dx = none → dx ≠ a → Q (.ref a) (eUp H1 a dx C f v))
    (room : X.A.depth + 1 < recursionLimit) {us : List Value} {kw : List (Str × Value)} (ha : (us = [u] ∧ kw = []) ∨ (us = [] ∧ kw = [(f, u)])) : wpAny (model X.prog X.w) X.A (call (.ref C) us kw) (L2.EP X pins σ Q) X.xe s1 := by
  refine wpAny_call (call_err T I1.kIn I1.nolimit room ha fun h' tk a t dx M => ?_)
  refine ⟨.ref a, eUp H1 a dx C f v, inv_two (o := exo a C (some dx)) (u := exd dx [(f, v)]) I1 M.keep M.new M.big M.ne (exo_ok M.obj) (exd_ok M.ns ?_), rfl, q a dx (I1.hok.fresh M.new) (I1.hok.fresh M.big) M.ne⟩
  exact relO_put (fs := []) rv fun g => True.intro
theorem pe_err {ta : TA} (T : ErrF X.K X.mg x f C fI) (room : X.A.depth + 1 < recursionLimit) (ha : PA X [e] ta) (hg : Gl X x) (hdb : (x == (PySem.Str.ofString "__debug__")) = false := by decide)
    (hs : starEach [e] X.env = (false, eval e X.env) :: starEach [] X.env := by rfl) (hpl : (backTo pos (starEach [] X.env)).any (·.1) = false := by rfl) : PE X (.Call (.Name x p) [e] [] pos) (tErr C f ta) := by
  refine ⟨fun pins s σ H Q I h => ?_⟩
  refine wpAny_Call_Name_kw (ld_glob I hg T.g ?_ hdb)
  refine PySem.W.callWith_K (h₀ := X.base) I.ok.mod.kin T.kp (thn (ha.run pos pins s σ H _ I h) fun us s1 hh => ?_) hs hpl
  obtain ⟨vs, H1, I1, r1, v, ev, q⟩ := hh
  subst ev
  refine ⟨I1.kIn, ?_⟩
  cases r1 with
  | cons rv rn =>
    cases rn
    exact err_back T I1 rv q room (.inl ⟨rfl, rfl⟩)
theorem pe_errK {ta : TA} (T : ErrF X.K X.mg x f C fI) (room : X.A.depth + 1 < recursionLimit) (ha : PK X [⟨some f, e, kpos⟩] ta) (hg : Gl X x) (hdb : (x == (PySem.Str.ofString "__debug__")) = false := by decide)
    (hall : (backToKw pos (keywordEach [⟨some f, e, kpos⟩] X.env)).all (·.1.isSome) = true := by rfl) (hks : (backToKw pos (keywordEach [⟨some f, e, kpos⟩] X.env)).filterMap (·.1) = [f] := by rfl)
    (hpl : ((backTo pos (starEach [] X.env)).any (·.1) || (backToKw pos (keywordEach [⟨some f, e, kpos⟩] X.env)).any (·.1.isNone)) = false := by rfl) : PE X (.Call (.Name x p) [] [⟨some f, e, kpos⟩] pos) (tErr C f ta) := by
  refine ⟨fun pins s σ H Q I h => ?_⟩
  refine wpAny_Call_Name_kw (ld_glob I hg T.g ?_ hdb)
  refine PySem.W.callWith_KW0 (h₀ := X.base) I.ok.mod.kin T.kp hall (thn (ha.run pos pins s σ H _ I h) fun us s1 hh => ?_) hpl
  obtain ⟨vs, H1, I1, r1, v, ev, q⟩ := hh
  subst ev
  refine ⟨I1.kIn, ?_⟩
  cases r1 with
  | cons rv rn =>
    cases rn
    rw [hks]
    exact err_back T I1 rv q room (.inr ⟨rfl, rfl⟩)
/-- C(), a class without an __init__ of its own -/
def tErr0 (C : Addr) : TE := fun σ H Q => ∀ a, H a = none → Q (.ref a) (upd H a (exo a C none))
theorem pe_err0 (T : ErrN X.K X.mg x C) (hg : Gl X x) (hdb : (x == (PySem.Str.ofString "__debug__")) = false := by decide) : PE X (.Call (.Name x p) [] [] pos) (tErr0 C) := by
  refine ⟨fun pins s σ H Q I h => ?_⟩
  refine wpAny_Call_Name_kw (ld_glob I hg T.g ?_ hdb)
  refine PySem.W.callWith_K0 I.kIn T.kp ?_
  show wpAny _ _ (call (.ref C) []) _ _ _
  obtain ⟨bm, N, nm, qn, bs, hdct, sn, sub, ab, col, dd, k0, k1, k2, k3, k5, mN, hC, hN, hni, O⟩ := exc_obj I.kIn T.new
  refine wpAny_call_exc_subT PySem.F.excBase_Exception O hC hN hni (fun h' a M => ?_) (by show 0 ≤ sizeLine; exact Nat.zero_le _)
  have hn : H a = none := I.hok.gone M.new
  obtain ⟨t, ht, _, _⟩ := M.there
  exact ⟨.ref a, upd H a (exo a C none), I.laidN M.keeps M.new hn (exo_ok ht), rfl, h a hn⟩
/-! raised: nothing of the error is told but its class -/
def tRais (C : Addr) (ta : TA) : L2.St → Hp → L2.XK → Prop := fun σ H Q => ta σ H fun vs H1 => ∃ v, vs = [v] ∧ ∀ d, Q (.ref C) (some d) H1
theorem pm_err {ta : TA} (T : ErrF X.K X.mg x f C fI) (room : X.A.depth + 1 < recursionLimit) (ha : PA X [e] ta) (hg : Gl X x) (hdb : (x == (PySem.Str.ofString "__debug__")) = false := by decide)
    (hs : starEach [e] X.env = (false, eval e X.env) :: starEach [] X.env := by rfl) (hpl : (backTo pos (starEach [] X.env)).any (·.1) = false := by rfl) : L2.PMk X (.Call (.Name x p) [e] [] pos) (tRais C ta) := by
  intro pins s σ H Q I h
  refine wpAny_Call_Name_kw (ld_glob I hg T.g ?_ hdb)
  refine PySem.W.callWith_K (h₀ := X.base) I.ok.mod.kin T.kp (thn (ha.run pos pins s σ H _ I h) fun us s1 hh => ?_) hs hpl
  obtain ⟨vs, H1, I1, r1, v, ev, q⟩ := hh
  subst ev
  refine ⟨I1.kIn, ?_⟩
  cases r1 with
  | cons rv rn =>
    cases rn
    refine wpAny_call (call_err T I1.kIn I1.nolimit room (.inl ⟨rfl, rfl⟩) fun h' tk a t dx M => ?_)
    have na : s1.heap.get? a = none := by
      cases z : s1.heap.get? a with
      | none => rfl
      | some o => exact absurd (Nat.lt_of_lt_of_le (Heap.lt_size z) M.new) (Nat.lt_irrefl _)
    exact ⟨a, _, _, s1, H1, .ref C, some dx, rfl, I1, M.keep, na, M.obj, ⟨rfl, rfl⟩, rfl, rfl, I1.hok.fresh M.new, rfl, I1.bare, L2.raises_own T.su T.ty, q dx⟩
theorem pm_err0 (T : ErrN X.K X.mg x C) (hg : Gl X x) (hdb : (x == (PySem.Str.ofString "__debug__")) = false := by decide) : L2.PMk X (.Call (.Name x p) [] [] pos) (fun _ H Q => Q (.ref C) none H) := by
  intro pins s σ H Q I h
  refine wpAny_Call_Name_kw (ld_glob I hg T.g ?_ hdb)
  refine PySem.W.callWith_K0 I.kIn T.kp ?_
  show wpAny _ _ (call (.ref C) []) _ _ _
  obtain ⟨bm, N, nm, qn, bs, hdct, sn, sub, ab, col, dd, k0, k1, k2, k3, k5, mN, hC, hN, hni, O⟩ := exc_obj I.kIn T.new
  refine wpAny_call_exc_subT PySem.F.excBase_Exception O hC hN hni (fun h' a M => ?_) (by show 0 ≤ sizeLine; exact Nat.zero_le _)
  exact L2.mk_of I M (L2.raises_own T.su T.ty) h (I.hok.gone M.new)
end
end Mine

set_option Elab.async false
set_option linter.all false
set_option maxRecDepth 100000
set_option maxHeartbeats 4000000
/-! Data of lists, tuples and small dicts as the abstract heap holds it, and its text. -/
namespace Mine
open PySem PySem.Spec L2
mutual
inductive DK (H : Hp) : V → PyData → Prop
  | non : DK H .non .none
  | bl (b : Bool) : DK H (.bl b) (.bool b)
  | int (i : Int) : DK H (.int i) (.int i)
  | str (x : Str) : DK H (.str x) (.str x)
  | lst {a : Addr} {xs : List V} {ds : List PyData} : H a = some (.lst xs) → DKs H xs ds → DK H (.ref a) (.list ds)
  | tup {a : Addr} {xs : List V} {ds : List PyData} : H a = some (.tup xs) → DKs H xs ds → DK H (.ref a) (.tuple ds)
  | dct0 {a : Addr} : H a = some (.dK []) → DK H (.ref a) (.dict [])
  | dct1 {a : Addr} {k : Str} {v : V} {d : PyData} : H a = some (.dK [(Sum.inr k, v)]) → DK H v d → DK H (.ref a) (.dict [(.str k, d)])
inductive DKs (H : Hp) : List V → List PyData → Prop
  | nil : DKs H [] []
  | cons {v : V} {vs : List V} {d : PyData} {ds : List PyData} : DK H v d → DKs H vs ds → DKs H (v :: vs) (d :: ds)
end
mutual
theorem DK.keeps {H H' : Hp} (k : ∀ b o, H b = some o → H' b = some o) : ∀ (d : PyData) (v : V), DK H v d → DK H' v d
  | .none, _, h => by cases h; exact .non
  | .bool b, _, h => by cases h; exact .bl b
  | .int i, _, h => by cases h; exact .int i
  | .str x, _, h => by cases h; exact .str x
  | .list ds, _, h => by
    cases h with
    | lst e r => exact .lst (k _ _ e) (DKs.keeps k ds _ r)
  | .tuple ds, _, h => by
    cases h with
    | tup e r => exact .tup (k _ _ e) (DKs.keeps k ds _ r)
  | .dict [], _, h => by
    cases h with
    | dct0 e => exact .dct0 (k _ _ e)
  | .dict [(kk, d)], _, h => by
    cases h with
    | dct1 e r => exact .dct1 (k _ _ e) (DK.keeps k d _ r)
  | .dict (_ :: _ :: _), _, h => by cases h
theorem DKs.keeps {H H' : Hp} (k : ∀ b o, H b = some o → H' b = some o) : ∀ (ds : List PyData) (vs : List V), DKs H vs ds → DKs H' vs ds
  | [], _, h => by cases h; exact .nil
  | d :: ds, _, h => by
    cases h with
    | cons h1 h2 => exact .cons (DK.keeps k d _ h1) (DKs.keeps k ds _ h2)
end
theorem DKs.len {H : Hp} : ∀ {vs : List V} {ds : List PyData}, DKs H vs ds → vs.length = ds.length
  | _, _, .nil => rfl
  | _, _, .cons _ r => by rw [List.length_cons, List.length_cons, r.len]
theorem DKs.snoc {H : Hp} {v : V} {d : PyData} (h : DK H v d) : ∀ {vs : List V} {ds : List PyData}, DKs H vs ds → DKs H (vs ++ [v]) (ds ++ [d])
  | _, _, .nil => .cons h .nil
  | _, _, .cons a r => .cons a (r.snoc h)

/-- what is asked of data that is shown: numbers of moderate size, a text of at most n signs, at most l deep -/
structure Shows (n l : Nat) (d : PyData) : Prop where
  ok : d.showable = true
  len : d.shown.length ≤ n
  dep : d.depth ≤ l

section
variable {prog : Program} {w : World} {X : Cx} {pins : List (Addr × Obj)} {σ : L2.St} {H : Hp} {s : Shared}
/-- reading, and the text under way -/
def Rk (prog : Program) (w : World) (h : Heap) (u : Value) (d : PyData) : Prop := (∃ as, Reads h u d as) ∧ ∃ bs, ReadAtMost h d.depth bs ∧ ReprK prog w bs h d.depth u d.shown
def Rks (prog : Program) (w : World) (h : Heap) (us : List Value) (ds : List PyData) : Prop := (∃ as, ReadsAll h us ds as) ∧ ∃ bs, ReadAtMost h (PyData.depthAll ds) bs ∧ ReprAllK prog w bs h (PyData.depthAll ds) us (PyData.shownAll ds)
theorem Rk.leaf {h : Heap} {u : Value} {d : PyData} {as : List Addr} (r : Reads h u d as) (i : ReprIs prog w u d.shown) : Rk prog w h u d := ⟨⟨_, r⟩, [], (fun _ z => nomatch z), .of_is i _ _ _⟩
theorem Rks.cons {h : Heap} {u : Value} {us : List Value} {d : PyData} {ds : List PyData} (a : Rk prog w h u d) (b : Rks prog w h us ds) : Rks prog w h (u :: us) (d :: ds) := by
  obtain ⟨⟨as, r1⟩, b1, m1, k1⟩ := a
  obtain ⟨⟨cs, r2⟩, b2, m2, k2⟩ := b
  refine ⟨⟨_, .cons r1 r2⟩, b1 ++ b2, ?_, ?_⟩
  · simp only [PyData.depthAll]
    exact (m1.mono (Nat.le_max_left _ _)).append (m2.mono (Nat.le_max_right _ _))
  · simp only [PyData.depthAll, PyData.shownAll]
    exact .cons ((k1.more fun _ z => List.mem_append_left _ z).level_le (Nat.le_max_left _ _)) (k2.more_le (fun _ z => List.mem_append_right _ z) (Nat.le_max_right _ _))
theorem Rk.list {h : Heap} {a : Addr} {o : Obj} {us : List Value} {n : Nat} {ds : List PyData} (h1 : h.get? a = some o) (h2 : o.cls = .type "list") (h3 : o.data = .seq us.toArray n) (r : Rks prog w h us ds) : Rk prog w h (.ref a) (.list ds) := by
  obtain ⟨⟨as, r⟩, bs, m, k⟩ := r
  have rd : Reads h (.ref a) (.list ds) (a :: as) := .list h1 h2 h3 r
  have out : a ∉ bs := not_mem_of_deeper rd (by simp only [PyData.depth]; omega) m
  refine ⟨⟨_, rd⟩, a :: bs, ReadAtMost.cons rd (by simp only [PyData.depth]; omega) m, ?_⟩
  simp only [PyData.depth, PyData.shown]
  cases us with
  | nil =>
    cases r
    simp only [PyData.shownAll, listText_nil]
    exact ReprK.listEmpty h1 h2 h3
  | cons x l => exact ReprK.list h1 h2 h3 out (by simpa using k.length_eq) fun i y e => k.item i y (by simpa using e)
theorem Rk.tuple {h : Heap} {a : Addr} {o : Obj} {us : List Value} {n : Nat} {ds : List PyData} (h1 : h.get? a = some o) (h2 : o.cls = .type "tuple") (h3 : o.data = .seq us.toArray n) (r : Rks prog w h us ds) : Rk prog w h (.ref a) (.tuple ds) := by
  obtain ⟨⟨as, r⟩, bs, m, k⟩ := r
  have rd : Reads h (.ref a) (.tuple ds) as := .tuple h1 h2 h3 r
  have out : a ∉ bs := not_mem_of_deeper rd (by simp only [PyData.depth]; omega) m
  refine ⟨⟨_, rd⟩, a :: bs, ReadAtMost.cons rd (by simp only [PyData.depth]; omega) m, ?_⟩
  simp only [PyData.depth, PyData.shown]
  exact ReprK.tuple h1 h2 h3 out k
theorem Rk.dict {h : Heap} {a : Addr} {o : Obj} {es : Array DictEntry} {n : Nat} {kvs : List (PyData × PyData)} (h1 : h.get? a = some o) (h2 : o.cls = .type "dict") (h3 : o.data = .dict es n) (h4 : (a == sysModules) = false)
    (rk : Rks prog w h (es.toList.map (·.key)) (kvs.map (·.1))) (rv : Rks prog w h (es.toList.map (·.val)) (kvs.map (·.2))) : Rk prog w h (.ref a) (.dict kvs) := by
  obtain ⟨⟨as, r1⟩, b1, m1, k1⟩ := rk
  obtain ⟨⟨cs, r2⟩, b2, m2, k2⟩ := rv
  have rd : Reads h (.ref a) (.dict kvs) _ := .dict h1 h2 h3 r1 r2
  have m : ReadAtMost h (PyData.depthKv kvs) (b1 ++ b2) := (m1.mono (PyData.depthAll_keys_le kvs)).append (m2.mono (PyData.depthAll_vals_le kvs))
  have out : a ∉ b1 ++ b2 := not_mem_of_deeper rd (by simp only [PyData.depth]; omega) m
  refine ⟨⟨_, rd⟩, a :: (b1 ++ b2), ReadAtMost.cons rd (by simp only [PyData.depth]; omega) m, ?_⟩
  simp only [PyData.depth, PyData.shown, PyData.shownKv_eq]
  exact ReprK.dict h1 h2 h3 h4 out (ReprEntriesK.of_two es.toList _ _ (k1.more_le (fun _ z => List.mem_append_left _ z) (PyData.depthAll_keys_le kvs)) (k2.more_le (fun _ z => List.mem_append_right _ z) (PyData.depthAll_vals_le kvs)))
mutual
theorem DK.rk (I : L2.Inv X pins σ H s) : ∀ (d : PyData) (v : V) (u : Value), DK H v d → L2.RelV v u → d.showable = true → d.shown.length ≤ sizeLine → Rk X.prog X.w s.heap u d
  | .none, _, _, h, r, _, _ => by
    cases h; cases r
    exact Rk.leaf .none (by simp only [PyData.shown]; exact ReprIs.none)
  | .bool b, _, _, h, r, _, _ => by
    cases h; cases r
    exact Rk.leaf (.bool b) (by simp only [PyData.shown]; exact ReprIs.bool b)
  | .int i, _, _, h, r, ok, _ => by
    cases h
    obtain ⟨t, rfl⟩ := r
    exact Rk.leaf (.int i t) (by simp only [PyData.shown]; exact ReprIs.int t (by simpa [PyData.showable] using ok))
  | .str x, _, _, h, r, _, hz => by
    cases h
    obtain ⟨t, rfl⟩ := r
    exact Rk.leaf (.str x t) (by simp only [PyData.shown]; exact ReprIs.str x t (by simpa only [PyData.shown] using hz))
  | .list ds, _, _, h, r, ok, hz => by
    cases h with
    | lst e r' =>
      cases r
      obtain ⟨_, its, n, rv, he⟩ := (show ObjOk X.prog X.w H s.heap _ (.lst _) from I.hok _ _ e)
      have hz' : (listText (PyData.shownAll ds)).length ≤ sizeLine := by simpa only [PyData.shown] using hz
      exact Rk.list he rfl rfl (DKs.rks I ds _ its r' rv (by simpa [PyData.showable] using ok) fun t ht => Nat.le_trans (listText_mem_le ht) hz')
  | .tuple ds, _, _, h, r, ok, hz => by
    cases h with
    | tup e r' =>
      cases r
      obtain ⟨_, its, rv, o, he, hc, n, hd⟩ := (show ObjOk X.prog X.w H s.heap _ (.tup _) from I.hok _ _ e)
      have hz' : (tupleText (PyData.shownAll ds)).length ≤ sizeLine := by simpa only [PyData.shown] using hz
      exact Rk.tuple he hc hd (DKs.rks I ds _ its r' rv (by simpa [PyData.showable] using ok) fun t ht => Nat.le_trans (tupleText_mem_le ht) hz')
  | .dict [], _, _, h, r, _, _ => by
    cases h with
    | dct0 e =>
      cases r
      obtain ⟨_, hs, vs, rel, o, es, ep, he, hx, hd, _, hp, _⟩ := (show ObjOk X.prog X.w H s.heap _ (.dK _) from I.hok _ _ e)
      cases rel
      have e0 : es.toList = [] := by
        cases q : es.toList with
        | nil => rfl
        | cons a b => rw [q] at hp; cases hp
      refine Rk.dict he hx.1 hd hs ?_ ?_
      all_goals
        rw [e0]
        exact ⟨⟨_, .nil⟩, [], (fun _ z => nomatch z), .nil⟩
  | .dict [(kk, d)], _, _, h, r, ok, hz => by
    cases h with
    | @dct1 a k v d e r' =>
      cases r
      obtain ⟨_, hs, vs, rel, o, es, ep, he, hx, hd, _, hp, _⟩ := (show ObjOk X.prog X.w H s.heap _ (.dK _) from I.hok _ _ e)
      have hz' : (dictText (PyData.shownKv [(.str k, d)])).length ≤ sizeLine := by simpa only [PyData.shown] using hz
      have ok' : PyData.showable (.str k) = true ∧ d.showable = true := by simpa [PyData.showable, PyData.showableKv] using ok
      have one : ∀ t ∈ PyData.shownKv [(.str k, d)], t.length ≤ sizeLine := fun t ht => Nat.le_trans (dictText_mem_le ht) hz'
      cases rel with
      | @cons p q _ _ pq rest =>
        cases rest
        obtain ⟨qk, qv⟩ := q
        obtain ⟨e1, rv⟩ := pq
        dsimp only at e1 rv
        subst e1
        obtain ⟨en, e0, ek, ev⟩ : ∃ en, es.toList = [en] ∧ keyIs (Sum.inr k) en.key = true ∧ en.val = qv := by
          cases q : es.toList with
          | nil => rw [q] at hp; cases hp
          | cons a b =>
            rw [q] at hp
            cases hp with
            | cons h1 h2 h3 =>
              cases h3
              exact ⟨a, rfl, h1, h2⟩
        obtain ⟨t, ek'⟩ := Value.isStrOf_shape (x := k) (v := en.key) ek
        have z1 : (PyData.shown (.str k)).length ≤ sizeLine := by
          obtain ⟨p, hp, hl⟩ := PyData.shownKv_key_le [(.str k, d)] (PyData.shown (.str k)) (by simp only [List.map_cons, PyData.shownAll]; exact List.mem_cons_self ..)
          exact Nat.le_trans hl (one p hp)
        have z2 : d.shown.length ≤ sizeLine := by
          obtain ⟨p, hp, hl⟩ := PyData.shownKv_val_le [(.str k, d)] d.shown (by simp only [List.map_cons, PyData.shownAll]; exact List.mem_cons_self ..)
          exact Nat.le_trans hl (one p hp)
        refine Rk.dict he hx.1 hd hs ?_ ?_
        · rw [e0]
          show Rks _ _ _ [en.key] [PyData.str k]
          rw [ek']
          exact Rks.cons (Rk.leaf (.str k t) (by simp only [PyData.shown]; exact ReprIs.str k t (by simpa only [PyData.shown] using z1))) ⟨⟨_, .nil⟩, [], (fun _ z => nomatch z), .nil⟩
        · rw [e0]
          show Rks _ _ _ [en.val] [d]
          rw [ev]
          exact Rks.cons (DK.rk I d v qv r' rv ok'.2 z2) ⟨⟨_, .nil⟩, [], (fun _ z => nomatch z), .nil⟩
  | .dict (_ :: _ :: _), _, _, h, _, _, _ => by cases h
theorem DKs.rks (I : L2.Inv X pins σ H s) : ∀ (ds : List PyData) (vs : List V) (us : List Value), DKs H vs ds → L2.Vals vs us → PyData.showableAll ds = true → (∀ t ∈ PyData.shownAll ds, t.length ≤ sizeLine) → Rks X.prog X.w s.heap us ds
  | [], _, _, h, r, _, _ => by
    cases h; cases r
    exact ⟨⟨_, .nil⟩, [], (fun _ z => nomatch z), .nil⟩
  | d :: ds, _, _, h, r, ok, hz => by
    have ok' : d.showable = true ∧ PyData.showableAll ds = true := by simpa [PyData.showableAll] using ok
    cases h with
    | cons h1 h2 =>
      cases r with
      | cons r1 r2 =>
        exact Rks.cons (DK.rk I d _ _ h1 r1 ok'.1 (hz _ (by simp only [PyData.shownAll]; exact List.mem_cons_self ..))) (DKs.rks I ds _ _ h2 r2 ok'.2 fun t ht => hz t (by simp only [PyData.shownAll]; exact List.mem_cons_of_mem _ ht))
end
end
/-- repr of a list -/
def rRepr : List V → Hp → VK → Prop := fun xs H Q => ∃ (a : Addr) (ds : List PyData), xs = [.ref a] ∧ DK H (.ref a) (.list ds) ∧ Shows sizeLine 20 (.list ds) ∧ Q (.str (PyData.shown (.list ds))) H
theorem call_reprD {X : Cx} (hg : X.A.guards = some []) (hu : X.A.units + 40 < cLine) : CallR X (.builtin "repr") rRepr := by
  intro pins s σ H xs us Q I r h
  obtain ⟨a, ds, rfl, hd, S, q⟩ := h
  obtain ⟨u, rfl, rv⟩ := vals1 r
  cases (show u = Value.ref a from rv)
  have rk : Rk X.prog X.w s.heap (.ref a) (.list ds) := DK.rk I (.list ds) (.ref a) (.ref a) hd rfl S.ok S.len
  cases hd with
  | lst e r' =>
    obtain ⟨_, its, n, rvs, he⟩ := (show ObjOk X.prog X.w H s.heap _ (.lst _) from I.hok _ _ e)
    have hz' : (listText (PyData.shownAll ds)).length ≤ sizeLine := by simpa only [PyData.shown] using S.len
    have rks := DKs.rks I ds _ its r' rvs (by simpa [PyData.showable] using S.ok) fun t ht => Nat.le_trans (listText_mem_le ht) hz'
    obtain ⟨⟨as, ra⟩, bs, m, k⟩ := rks
    have rd : Reads s.heap (.ref a) (.list ds) (a :: as) := .list he rfl rfl ra
    have out : a ∉ bs := not_mem_of_deeper rd (by simp only [PyData.depth]; omega) m
    have dep : PyData.depthAll ds + 1 ≤ 20 := by simpa only [PyData.depth] using S.dep
    have fin : ∀ h' u tk, (∀ b o, s.heap.get? b = some o → h'.get? b = some o) → L2.EP X pins σ Q (.str (PyData.shown (.list ds)) u) { s with heap := h', toks := tk } := fun h' u tk kp => ⟨.str _, H, I.kept kp, ⟨_, rfl⟩, q⟩
    refine call_repr_slot (by omega) ⟨_, he, rfl⟩ PySem.F.slot_list_repr.toG ?_
    cases its with
    | nil =>
      cases ra
      refine call_list_repr_empty ⟨_, he, rfl⟩ he rfl ⟨_, _, rfl, ?_⟩
      have e0 : PyData.shown (.list []) = ("[]" : Str) := by simp only [PyData.shown, PyData.shownAll, listText_nil]
      rw [← e0]
      exact fin _ _ _ fun _ _ z => z
    | cons x l =>
      refine call_list_reprK he rfl rfl out (by simpa using k.length_eq) (fun i y e => k.item i y (by simpa using e)) (A := X.A.in1) hg (fun b _ => Clear.nil b) (by show X.A.units + 1 + _ < _; omega) (fun _ _ z => z) (fun h' u tk kp => ⟨_, _, rfl, ?_⟩) hz'
      have e0 : PyData.shown (.list ds) = listText (PyData.shownAll ds) := by simp only [PyData.shown]
      rw [← e0]
      exact fin h' u tk kp
end Mine

set_option Elab.async false
set_option linter.all false
set_option maxRecDepth 100000
set_option maxHeartbeats 4000000
/-! Promises of defs that are called where nothing is being shown (no repr runs): so that they may show data themselves. -/
namespace Mine
open PySem PySem.Spec L2
/-- a def's promise, kept wherever no repr is under way -/
structure FnG (P : Program) (w : World) (K : PySem.W.Frag) (mg : Str → Option Value) (base : Heap) (k : Nat) (f : Addr) (fd : FuncData) (ps : List Str) (sp : L2.Sp) : Prop where
  len : ∀ vs H Q E, sp vs H Q E → vs.length = ps.length
  run : ∀ (A : Around) (outer : List Env) (s : Shared) (H : Hp) (args : Args) (us : List Value) (vs : List V) (Q : L2.VK) (E : L2.XK), L2.Room k A → A.guards = some [] → L2.Env0 P w K mg base A outer s H → BindsTo s fd args (ps.zip us) → L2.Vals vs us → sp vs H Q E →
    codeAny (model P w) A (.call (.ref f) args) (L2.CR L2.CX0 outer P w H s Q E) s
theorem fnG_of {P : Program} {w : World} {K : PySem.W.Frag} {mg : Str → Option Value} {base : Heap} {k : Nat} {x qual : Str} {st : Stmt} {f : Addr} {fd : FuncData} {N ps : List Str} {sp : L2.Sp} (F : Fun K x qual st f fd) (S : FnScope N ps (defScope st))
    (len : ∀ vs H Q E, sp vs H Q E → vs.length = ps.length)
    (body : ∀ (cdv : Value) (A : Around) (outer : List Env) (s : Shared) (H : Hp) (vs : List V) (Q : L2.VK) (E : L2.XK), L2.Room k (A.deeper (PyProof.Rows.envOfC qual (defScope st) s.heap.objs.size f cdv)) → (A.deeper (PyProof.Rows.envOfC qual (defScope st) s.heap.objs.size f cdv)).guards = some [] → sp vs H Q E →
      ∃ t, PSs (cxOf CX0 P w K mg base N qual (defScope st) f cdv A outer s H E).nox (defBody st) t ∧ t { nx := fun _ H' => Q .non H', rt := Q } (start N vs) H) : FnG P w K mg base (k + 1) f fd ps sp := by
  obtain ⟨oc, od, kV, doc, pm, an, cdv, ct, osl, rfl, lk, hcd⟩ := F.ex
  refine ⟨len, fun A outer s H args us vs Q E hr hg e0 hb r q => ?_⟩
  have inS : ∀ b o, base.get? b = some o → s.heap.get? b = some o := fun b o z => (e0.bs b o z).1
  have hl := len _ _ _ _ q
  have kinds : ∀ y ∈ ps.zip us, (defScope st).names.lookup y.1 = some .local ∨ ((defScope st).names.lookup y.1 = some .cell ∧ ((cellsFrom (s.heap.objs.size + 1) (defScope st).names []).lookup y.1).isSome = true) := by
    intro y hy
    obtain ⟨n, v⟩ := y
    rcases S.par n (List.of_mem_zip hy).1 with z | z
    · exact .inl z
    · exact .inr ⟨z, PySem.W.cellsFrom_some _ _ _ (.inl z)⟩
  have KX := e0.mod.kin.keeps inS
  refine codeAny_call_function hr.depth (KX _ _ lk) rfl S.co S.gen rfl (PySem.W.codeRec_of KX hcd) (hb _ _ _ _ ?_)
  refine wpAny_newFunctionEnv_cells S.kind kinds fun env he s1 x => ?_
  subst he
  refine ⟨(e0.mod.nolimit.keeps inS).keeps x.toInCall.keep, codeAny_func ?_⟩
  obtain ⟨t, ht, hq⟩ := body cdv A outer s H vs Q E (hr.deeper _) hg q
  have I := inv_start (CX := CX0) (E := E) S hr.hd e0 hl r x
  refine wpAny_mono (ht.nox.run [] s1 (start N vs) H _ I hq) (fun fl s' hs => ?_) fun _ _ z => z
  have done : ∀ {σ' : L2.St} {H' : Hp} {v : V} {u : Value}, L2.Inv (cxOf CX0 P w K mg base N qual (defScope st) f cdv A outer s H E) [] σ' H' s' → L2.RelV v u → Q v H' → L2.CE outer P w H s Q u s' :=
    fun J rv z => ⟨_, _, J.os, J.bare, J.base, J.hok, rv, z⟩
  cases fl with
  | ret u =>
    obtain ⟨v, σ', H', J, rv, z⟩ := hs
    exact done J rv z
  | next =>
    obtain ⟨σ', H', J, z⟩ := hs
    exact done (v := V.non) (u := Value.none) J rfl z
  | brk =>
    obtain ⟨_, _, _, z⟩ := hs
    exact False.elim z
  | cont =>
    obtain ⟨_, _, _, z⟩ := hs
    exact False.elim z
section
variable {X : Cx} {k : Nat} {f : Addr} {fd : FuncData} {ps : List Str} {sp : L2.Sp} {x : Str} {p pos : Pos} {e : Expr} {es : List Expr} {t : L2.TA}
/-- such a def called -/
def tCallG (sp : L2.Sp) (t : L2.TA) : L2.TE := fun σ H Q => t σ H fun vs H1 => sp vs H1 Q fun _ _ _ => False
theorem pe_callG (F : FnG X.prog X.w X.K X.mg X.base k f fd ps sp) (hr : L2.Room k X.A) (hgd : X.A.guards = some []) (hg : Gl X x) (hm : X.mg x = some (.ref f)) (hk : PySem.W.keepIn X.K (.ref f) = true) (hb : L2.Binds X.K fd ps [])
    (ha : L2.PA X (e :: es) t) (hdb : (x == (PySem.Str.ofString "__debug__")) = false := by decide) (he : starEach (e :: es) X.env = (false, eval e X.env) :: starEach es X.env := by rfl) (hpl : (backTo pos (starEach es X.env)).any (·.1) = false := by rfl) :
    L2.PE X (.Call (.Name x p) (e :: es) [] pos) (tCallG sp t) := by
  refine ⟨fun pins s σ H Q I h => ?_⟩
  refine wpAny_Call_Name_kw (ld_glob I hg hm ?_ hdb)
  refine PySem.W.callWith_K (h₀ := X.base) I.ok.mod.kin hk (thn (ha.run pos pins s σ H _ I h) fun us s1 ⟨vs, H1, I1, r, q⟩ => ⟨I1.kIn, ?_⟩) he hpl
  have hl : us.length = ps.length := by
    rw [← r.length]
    exact F.len _ _ _ _ q
  have b := hb s1 us I1.kIn (by rw [List.append_nil]; exact hl)
  rw [List.append_nil] at b
  refine wpAny_call (codeAny_mono (F.run X.A X.stack s1 H1 ⟨us, []⟩ us vs Q _ hr hgd I1.env0 b r q) fun r s' hq => ?_)
  cases r with
  | error e => exact pass0 pins σ H1 s1 e s' I1 hq
  | ok fl =>
    cases fl with
    | ret u => exact I1.after hq
    | next => exact False.elim hq
    | brk => exact False.elim hq
    | cont => exact False.elim hq
end
end Mine
namespace Mine
open PySem PySem.Spec PyProof.Rows L2
/-! the law's own end -/
section
variable {P : Program} {w : World} {K : PySem.W.Frag} {mg mb : Str → Option Value} {k : Nat} {fa a : Addr} {fd : FuncData} {x : Str} {sp : L2.Sp} {s₁ : Shared} {vs : List Value} {ns : List Int}
/-- what is asked of the law's call -/
def LawEnd (P : Program) (w : World) (fa a : Addr) (s₁ : Shared) : Prop :=
  codeAny (model P w) callerA (.call (.ref fa) ⟨[.ref a], []⟩) (fun r s' => r = .ok (.ret (.bool true)) ∧ OldK s₁.heap s'.heap ∧ s'.os = s₁.os ∧ AllBare s'.gens) s₁
theorem end_from (KX : K.In s₁.heap) (hns : s₁.heap.Ns mainGlobals mg) (hb : s₁.heap.Ns builtinsNs mb) (hbb : ∀ x : Str, x ≠ "__name__" → mb x = bootBuiltins x) (hlim : s₁.heap.NoLimit) (hg : s₁.gens = #[])
    (ha : s₁.heap.get? a = some { cls := .type "list", data := .seq vs.toArray }) (hr : L2.Room k callerA)
    (F : ∀ base : Heap, K.In base → base.Ns mainGlobals mg → FnG P w K mg base k fa fd [x] sp) (hbind : ∀ (s : Shared) (u : Value), BindsTo s fd ⟨[u], []⟩ [(x, u)])
    (H : Hp) (hO : L2.Only H) (ok : L2.HOk P w H s₁.heap) (at_ : ∀ b, H b ≠ none → b = a) (notK : H a ≠ none → K.lookup a = none) (hsp : sp [.ref a] H (fun v _ => v = .bl true) fun _ _ _ => False) : LawEnd P w fa a s₁ := by
  have free : ∀ {b : Addr} {o : Obj} {es : Array DictEntry} {ep : Nat}, s₁.heap.get? b = some o → o.data = .dict es ep → H b = none := by
    intro b o es ep e d
    cases q : H b with
    | none => rfl
    | some u =>
      have z : b = a := at_ b (by rw [q]; exact fun y => nomatch y)
      subst z
      rw [ha] at e
      cases e
      cases d
  have names : ∀ {b : Addr} {m : Str → Option Value}, s₁.heap.Ns b m → (hidT s₁.heap H).Ns b m := fun {b m} ⟨o, es, ep, e, d, r⟩ => ⟨o, es, ep, hidT_get e (free e d), d, r⟩
  have Kb : K.In (hidT s₁.heap H) := fun b o e => hidT_get (KX b o e) (by
    cases q : H b with
    | none => rfl
    | some u =>
      have z : b = a := at_ b (by rw [q]; exact fun y => nomatch y)
      subst z
      rw [notK (by rw [q]; exact fun y => nomatch y)] at e
      cases e)
  have hM : L2.Mod K mg (hidT s₁.heap H) := ⟨Kb, names hns, ⟨mb, names hb, hbb⟩, let ⟨mc, h1, h2⟩ := hlim; ⟨mc, names h1, h2⟩⟩
  have e0 : L2.Env0 P w K mg (hidT s₁.heap H) callerA [] s₁ H := ⟨rfl, hM, fun b o e => of_hidT e, Nat.le_of_eq (hidT_size _ _), trivial, fun b z => absurd (show b ∈ ([] : List Addr) from z) (by simp), ok, .of_eq hg⟩
  refine codeAny_mono ((F _ Kb (names hns)).run callerA [] s₁ H ⟨[.ref a], []⟩ [.ref a] [.ref a] _ _ hr rfl e0 (hbind s₁ (.ref a)) (.cons rfl .nil) hsp) fun r s' h => ?_
  rcases r with e | fl
  · exact False.elim h
  cases fl with
  | next => exact False.elim h
  | brk => exact False.elim h
  | cont => exact False.elim h
  | ret u =>
    obtain ⟨v, H', os, bare, un, ok', r', q⟩ := h
    obtain rfl : v = .bl true := q
    obtain rfl : u = Value.bool true := r'
    refine ⟨rfl, OldK.of_keep fun b o e => ?_, os, bare⟩
    cases q : H b with
    | none => exact un.keep b o e q (fun z => absurd (show b ∈ ([] : List Addr) from z) (by simp)) (by simp)
    | some u =>
      rcases hO b with z | ⟨ob, xs, z⟩
      · rw [q] at z
        cases z
      · obtain ⟨e1, _⟩ := ok b _ z
        obtain ⟨e2, _⟩ := ok' b _ (un.frzs b ob _ z)
        rw [e] at e1
        cases e1
        exact e2
theorem law_callG (KX : K.In s₁.heap) (hns : s₁.heap.Ns mainGlobals mg) (hb : s₁.heap.Ns builtinsNs mb) (hbb : ∀ x : Str, x ≠ "__name__" → mb x = bootBuiltins x) (hlim : s₁.heap.NoLimit) (hg : s₁.gens = #[])
    (ha : s₁.heap.get? a = some { cls := .type "list", data := .seq vs.toArray }) (hi : IntsAre vs ns) (hl : ns.length ≤ sizeLine) (hr : L2.Room k callerA)
    (F : ∀ base : Heap, K.In base → base.Ns mainGlobals mg → FnG P w K mg base k fa fd [x] sp) (hbind : ∀ (s : Shared) (u : Value), BindsTo s fd ⟨[u], []⟩ [(x, u)])
    (hsp : ∀ H : Hp, L2.Only H → SqL K H a (ns.map V.int) → sp [.ref a] H (fun v _ => v = .bl true) fun _ _ _ => False) : LawEnd P w fa a s₁ := by
  have rv := vals_ints hi
  have lenV := hi.length
  cases hk : K.lookup a with
  | some o =>
    have e := KX a o hk
    rw [ha] at e
    cases e
    have none_ : L2.Only (fun _ => none) := fun _ => .inl rfl
    exact end_from KX hns hb hbb hlim hg ha hr F hbind _ none_ (fun _ _ z => nomatch z) (fun _ z => absurd rfl z) (fun z => absurd rfl z)
      (hsp _ none_ (.inr ⟨_, vs.toArray, _, hk, rfl, rfl, rfl, by rw [List.size_toArray, lenV]; exact hl, by simpa using rv⟩))
  | none =>
    let H1 : Hp := fun b => if b = a then some (.frz { cls := .type "list", data := .seq vs.toArray } (.lst (ns.map V.int))) else none
    have at1 : H1 a = some (.frz { cls := .type "list", data := .seq vs.toArray } (.lst (ns.map V.int))) := if_pos rfl
    have ne1 : ∀ {b}, b ≠ a → H1 b = none := fun h => if_neg h
    have only1 : L2.Only H1 := fun b => by
      by_cases h : b = a
      · exact .inr ⟨_, _, by rw [h]; exact at1⟩
      · exact .inl (ne1 h)
    refine end_from KX hns hb hbb hlim hg ha hr F hbind H1 only1 (fun b u z => ?_) (fun b z => ?_) (fun _ => hk) (hsp _ only1 (.inl (.inr ⟨_, at1⟩)))
    · by_cases h : b = a
      · subst h
        rw [at1] at z
        cases z
        exact ⟨ha, by rw [List.length_map]; exact hl, vs, _, rv, ha⟩
      · rw [ne1 h] at z
        cases z
    · by_cases h : b = a
      · exact h
      · exact absurd (ne1 h) z
end
theorem walkG {l : PySem.W.OpenLaw} {n k : Nat} {q : Program} {loose : List Str} {XP : (Str → Option Value) → Heap → Prop} {YP : World → Heap → Prop} {d : DefRec} {K : Params → PySem.W.Frag} {sp : PySem.W.Frag → L2.Sp} {x : Str}
    (hn : l.most = some n) (hn2 : n ≤ sizeLine) (hdf : d.params.defaults = []) (hr : L2.Room k callerA) (hY : ∀ (w : World) (h : Heap), YP w h → (K w.params).In h)
    (F : ∀ (w : World) (mg : Str → Option Value) (fa : Addr) (h : Heap), (K w.params).In h → h.Ns mainGlobals mg → mg d.name = some (.ref fa) →
      ∃ fd : FuncData, (∀ (s : Shared) (u : Value), BindsTo s fd ⟨[u], []⟩ [(x, u)]) ∧ ∀ base : Heap, (K w.params).In base → base.Ns mainGlobals mg → FnG l.prog w (K w.params) mg base k fa fd [x] (sp (K w.params)))
    (hsp : ∀ (K : PySem.W.Frag) (H : Hp) (a : Addr) (ns : List Int), ns.length ≤ n → L2.Only H → SqL K H a (ns.map V.int) → sp K [.ref a] H (fun v _ => v = .bl true) fun _ _ _ => False) :
    PySem.W.WalkO q loose XP YP l.row.toRowW d [] (fun f vs => PySem.call f vs) := by
  refine Att.attach_call hn hdf fun w s₀ s₁ mg mb fa o pm cd doc a vs ns G Y ho hd hcd hmg hobj hints hlen hg => ?_
  have KX := hY w _ Y
  obtain ⟨fd, hb, hF⟩ := F w mg fa _ KX G.T.g hmg
  exact law_callG KX G.T.g G.T.b G.T.builtins G.T.nolimit hg hobj hints (Nat.le_trans hlen hn2) hr hF hb fun H hO hS => hsp (K w.params) H a ns hlen hO hS
end Mine

set_option Elab.async false
set_option linter.all false
set_option maxRecDepth 100000
set_option maxHeartbeats 4000000
/-! tuple(xs) as a plain tuple; dict(t) of a plain tuple of pairs. -/
namespace Mine
open PySem PySem.Spec PyProof.Rows L2
/-- a tuple that has no dict of its own -/
def TupN (K : PySem.W.Frag) (H : Hp) (a : Addr) (xs : List V) : Prop := (∃ o, H a = some (.frz o (.tup xs)) ∧ o.dict = none) ∨ (SqT K H a xs ∧ ∃ o, K.lookup a = some o ∧ o.dict = none)
theorem TupN.sq {K : PySem.W.Frag} {H : Hp} {a : Addr} {xs : List V} (h : TupN K H a xs) : SqT K H a xs := by
  rcases h with ⟨o, e, _⟩ | ⟨h, _⟩
  · exact .inl (.inr ⟨o, e⟩)
  · exact h
section
variable {X : Cx} {pins : List (Addr × Obj)} {σ : L2.St} {H : Hp} {s : Shared}
theorem call_tupleF : CallR X (.type "tuple") (fun xs H Q => ∃ p ys, xs = [.ref p] ∧ SqL X.K H p ys ∧ ∀ l o, H l = none → o.dict = none → Q (.ref l) (upd H l (.frz o (.tup ys)))) := by
  intro pins s σ H xs us Q I r h
  obtain ⟨p, ys, rfl, hq, q⟩ := h
  obtain ⟨u, rfl, rx⟩ := vals1 r
  cases rx
  obtain ⟨its, r', pl, hz⟩ := I.list hq
  have hlen := r'.length
  refine call_tuple_list pl.isList (fun h' kp => ?_) (by simp only [List.size_toArray] <;> omega)
  have I1 : L2.Inv X pins σ H { s with heap := h' } := I.kept (t' := s.toks) kp
  have I2 : L2.Inv X pins σ (upd H h'.objs.size (.frz { cls := .type "tuple", data := .seq its.toArray } (.tup ys))) { s with heap := h'.push { cls := .type "tuple", data := .seq its.toArray } } :=
    I1.laid (t' := s.toks) (fun b o e => Heap.get?_push_of_some _ e) (Nat.le_refl _) (show ObjOk X.prog X.w _ _ _ (.frz _ (.tup ys)) from ⟨Heap.get?_push_size _ rfl, hz, its, r', IsTup.new _ _⟩)
  exact ⟨.ref h'.objs.size, _, I2, rfl, q _ _ (I1.hok.fresh (Nat.le_refl _)) rfl⟩
theorem tupN_at {a : Addr} {xs : List V} (I : L2.Inv X pins σ H s) (h : TupN X.K H a xs) : ∃ (its : List Value) (o : Obj) (n : Nat), Vals xs its ∧ s.heap.get? a = some o ∧ o.cls = .type "tuple" ∧ o.dict = none ∧ o.data = .seq its.toArray n ∧ xs.length ≤ sizeLine := by
  rcases h with ⟨o, e, hd⟩ | ⟨h, o, hk, hd⟩
  · obtain ⟨g, hz, its, rv, o', ho, hc, n, hdat⟩ := (show ObjOk X.prog X.w H s.heap _ (.frz o (.tup xs)) from I.hok _ _ e)
    rw [g] at ho
    cases ho
    exact ⟨its, o, n, rv, g, hc, hd, hdat, hz⟩
  · obtain ⟨its, rv, ⟨o', ho, hc, n, hdat⟩, hz⟩ := I.tuple h
    have g := I.kIn a o hk
    rw [g] at ho
    cases ho
    exact ⟨its, o, n, rv, g, hc, hd, hdat, hz⟩
theorem pairs_all (I : L2.Inv X pins σ H s) : ∀ {ps : List Addr} {kvs : List (Key × V)}, Paired (fun p kv => SqT X.K H p [kV kv.1, kv.2]) ps kvs →
    ∃ L : List (Addr × Key × Value × Value), ps = L.map (·.1) ∧ KV kvs (L.map fun x => (x.2.1, x.2.2.2)) ∧ ∀ x ∈ L, IsTup s.heap x.1 #[x.2.2.1, x.2.2.2] ∧ keyIs x.2.1 x.2.2.1 = true
  | _, _, .nil => ⟨[], rfl, .nil, fun _ z => (List.not_mem_nil z).elim⟩
  | _, _, .cons (a := p) (b := kv) h t => by
    obtain ⟨L, e, r, hp⟩ := pairs_all I t
    obtain ⟨its, rv, ht, _⟩ := I.tuple h
    obtain ⟨u, y, ei, ru, ry⟩ := vals2 rv
    subst ei
    refine ⟨(p, kv.1, u, y) :: L, by rw [e]; rfl, .cons ⟨rfl, ry⟩ r, fun x hx => ?_⟩
    rcases List.mem_cons.mp hx with rfl | hx
    · exact ⟨ht, kV_is (P := X.prog) (w := X.w) ru⟩
    · exact hp x hx
theorem call_dictPT (hcalm : X.calm = true) : CallR X (.type "dict") (fun xs H Q => ∃ (a : Addr) (ps : List Addr) (kvs : List (Key × V)), xs = [.ref a] ∧ TupN X.K H a (ps.map V.ref) ∧ Paired (fun p kv => SqT X.K H p [kV kv.1, kv.2]) ps kvs ∧
    ∀ p, H p = none → Q (.ref p) (upd H p (.dK (mergeK [] kvs)))) := by
  intro pins s σ H xs us Q I r q
  obtain ⟨a, ps, kvs, ex, hq, hp, q⟩ := q
  subst ex
  obtain ⟨u, eu, rx⟩ := vals1 r
  subst eu
  cases rx
  obtain ⟨its, o, n, rv, ho, hc, hd, hdat, hz⟩ := tupN_at I hq
  have ei := refs_at rv
  subst ei
  rw [List.length_map] at hz
  obtain ⟨L, el, rel, hL⟩ := pairs_all I hp
  subst el
  rw [List.length_map] at hz
  have ok : PlainSeq "tuple" s.heap a ((L.map (·.1)).map Value.ref).toArray ∧ PairItems s.heap ((L.map (·.1)).map Value.ref).toArray (fun j => (L.map (·.1)).getD j 0) (L.map fun x => (x.2.2.1, x.2.2.2)) := by
    refine ⟨⟨o, n, ho, hc, hd, hdat⟩, by simp, fun j k v e => ?_⟩
    rw [List.getElem?_map] at e
    obtain ⟨x, hx, e⟩ := Option.map_eq_some_iff.mp e
    cases e
    have hj : (L.map (·.1))[j]? = some x.1 := by rw [List.getElem?_map, hx]; rfl
    refine ⟨by simp [hx, List.getD], .inl ?_⟩
    have : (L.map (·.1)).getD j 0 = x.1 := by rw [List.getD, hj]; rfl
    show s.heap.IsTuple ((L.map (·.1)).getD j 0) #[x.2.2.1, x.2.2.2]
    rw [this]
    exact (hL x (List.mem_of_getElem? hx)).1
  have hv : PairsHave (mixKind X.prog X.w) (L.map fun x => (x.2.2.1, x.2.2.2)).length (PairRel (L.map fun x => (x.2.2.1, x.2.2.2))) (L.map fun x => (x.2.1, x.2.2.2)) := by
    refine ⟨by simp, fun i key v e => ?_⟩
    have e : (L.map fun x => (x.2.2.1, x.2.2.2))[i]? = some (key, v) := e
    rw [List.getElem?_map] at e
    obtain ⟨x, hx, e⟩ := Option.map_eq_some_iff.mp e
    cases e
    exact ⟨x.2.1, by rw [List.getElem?_map, hx]; rfl, (hL x (List.mem_of_getElem? hx)).2⟩
  refine PySem.call_dict_pairs (PairArg.tuple a _ _ _) (I.ok.hd hcalm) ok hv (by rw [List.length_map]; exact hz) fun h' tk hd' k => ?_
  have hm : (s.heap.objs.size == sysModules) = false := beq_eq_false_iff_ne.mpr (Nat.ne_of_gt I.big)
  have hlen : (mergeK [] kvs).length ≤ sizeLine := by
    refine Nat.le_trans (length_mergeK kvs []) ?_
    rw [List.length_nil, Nat.zero_add, rel.length, List.length_map]
    exact hz
  exact ⟨.ref s.heap.objs.size, upd H s.heap.objs.size (.dK (mergeK [] kvs)), I.laid (t' := tk) (fun b o e => k b o (List.not_mem_nil) e) (Nat.le_refl _) (show ObjOk X.prog X.w _ _ _ (.dK (mergeK [] kvs)) from ⟨hlen, hm, merged [] _, KV.merge rel .nil, hd'⟩), rfl, q _ (I.hok.fresh (Nat.le_refl _))⟩
end
end Mine

set_option Elab.async false
set_option linter.all false
set_option maxRecDepth 100000
set_option maxHeartbeats 4000000
/-! The text of a list in which plain tuples stand, too. -/
namespace Mine
open PySem PySem.Spec PyProof.Rows L2
/-- a plain tuple -/
def Fz (H : Hp) (a : Addr) (xs : List V) : Prop := ∃ o, H a = some (.frz o (.tup xs)) ∧ o.dict = none
theorem Fz.sq {K : PySem.W.Frag} {H : Hp} {a : Addr} {xs : List V} (h : Fz H a xs) : SqT K H a xs := let ⟨o, e, _⟩ := h; .inl (.inr ⟨o, e⟩)
theorem Fz.n {K : PySem.W.Frag} {H : Hp} {a : Addr} {xs : List V} (h : Fz H a xs) : TupN K H a xs := .inl h
theorem Fz.upd {H : Hp} {a q : Addr} {xs : List V} {o : HO} (h : Fz H a xs) (hq : H q = none) : Fz (upd H q o) a xs := let ⟨o', e, d⟩ := h; ⟨o', (upd_ne (ne_of_none e hq)).trans e, d⟩
inductive DZ (H : Hp) : V → PyData → Prop
  | dk {v : V} {d : PyData} : DK H v d → DZ H v d
  | fz {a : Addr} {xs : List V} {ds : List PyData} : Fz H a xs → DKs H xs ds → DZ H (.ref a) (.tuple ds)
inductive DZs (H : Hp) : List V → List PyData → Prop
  | nil : DZs H [] []
  | cons {v : V} {vs : List V} {d : PyData} {ds : List PyData} : DZ H v d → DZs H vs ds → DZs H (v :: vs) (d :: ds)
section
variable {X : Cx} {pins : List (Addr × Obj)} {σ : L2.St} {H : Hp} {s : Shared}
theorem DZ.rk (I : L2.Inv X pins σ H s) {d : PyData} {v : V} {u : Value} (h : DZ H v d) (r : L2.RelV v u) (ok : d.showable = true) (hz : d.shown.length ≤ sizeLine) : Rk X.prog X.w s.heap u d := by
  cases h with
  | dk h => exact DK.rk I d v u h r ok hz
  | @fz a xs ds f r' =>
    obtain ⟨o, e, _⟩ := f
    cases r
    obtain ⟨_, _, its, rv, o, he, hc, n, hd⟩ := (show ObjOk X.prog X.w H s.heap _ (.frz _ (.tup _)) from I.hok _ _ e)
    have hz' : (tupleText (PyData.shownAll ds)).length ≤ sizeLine := by simpa only [PyData.shown] using hz
    exact Rk.tuple he hc hd (DKs.rks I ds _ its r' rv (by simpa [PyData.showable] using ok) fun t ht => Nat.le_trans (tupleText_mem_le ht) hz')
theorem DZs.rks (I : L2.Inv X pins σ H s) : ∀ (ds : List PyData) (vs : List V) (us : List Value), DZs H vs ds → L2.Vals vs us → PyData.showableAll ds = true → (∀ t ∈ PyData.shownAll ds, t.length ≤ sizeLine) → Rks X.prog X.w s.heap us ds
  | [], _, _, h, r, _, _ => by
    cases h; cases r
    exact ⟨⟨_, .nil⟩, [], (fun _ z => nomatch z), .nil⟩
  | d :: ds, _, _, h, r, ok, hz => by
    have ok' : d.showable = true ∧ PyData.showableAll ds = true := by simpa [PyData.showableAll] using ok
    cases h with
    | cons h1 h2 =>
      cases r with
      | cons r1 r2 =>
        exact Rks.cons (DZ.rk I h1 r1 ok'.1 (hz _ (by simp only [PyData.shownAll]; exact List.mem_cons_self ..))) (DZs.rks I ds _ _ h2 r2 ok'.2 fun t ht => hz t (by simp only [PyData.shownAll]; exact List.mem_cons_of_mem _ ht))
end
/-- repr of a list -/
def rReprZ : List V → Hp → VK → Prop := fun xs H Q => ∃ (a : Addr) (vs : List V) (ds : List PyData), xs = [.ref a] ∧ H a = some (.lst vs) ∧ DZs H vs ds ∧ Shows sizeLine 20 (.list ds) ∧ Q (.str (PyData.shown (.list ds))) H
theorem call_reprZ {X : Cx} (hg : X.A.guards = some []) (hu : X.A.units + 40 < cLine) : CallR X (.builtin "repr") rReprZ := by
  intro pins s σ H xs us Q I r h
  obtain ⟨a, vs, ds, rfl, e, r', S, q⟩ := h
  obtain ⟨u, rfl, rv⟩ := vals1 r
  cases (show u = Value.ref a from rv)
  obtain ⟨_, its, n, rvs, he⟩ := (show ObjOk X.prog X.w H s.heap _ (.lst _) from I.hok _ _ e)
  have hz' : (listText (PyData.shownAll ds)).length ≤ sizeLine := by simpa only [PyData.shown] using S.len
  have rks := DZs.rks I ds _ its r' rvs (by simpa [PyData.showable] using S.ok) fun t ht => Nat.le_trans (listText_mem_le ht) hz'
  obtain ⟨⟨as, ra⟩, bs, m, k⟩ := rks
  have rd : Reads s.heap (.ref a) (.list ds) (a :: as) := .list he rfl rfl ra
  have out : a ∉ bs := not_mem_of_deeper rd (by simp only [PyData.depth]; omega) m
  have dep : PyData.depthAll ds + 1 ≤ 20 := by simpa only [PyData.depth] using S.dep
  have fin : ∀ h' u tk, (∀ b o, s.heap.get? b = some o → h'.get? b = some o) → L2.EP X pins σ Q (.str (PyData.shown (.list ds)) u) { s with heap := h', toks := tk } := fun h' u tk kp => ⟨.str _, H, I.kept kp, ⟨_, rfl⟩, q⟩
  refine call_repr_slot (by omega) ⟨_, he, rfl⟩ PySem.F.slot_list_repr.toG ?_
  cases its with
  | nil =>
    cases ra
    refine call_list_repr_empty ⟨_, he, rfl⟩ he rfl ⟨_, _, rfl, ?_⟩
    have e0 : PyData.shown (.list []) = ("[]" : Str) := by simp only [PyData.shown, PyData.shownAll, listText_nil]
    rw [← e0]
    exact fin _ _ _ fun _ _ z => z
  | cons x l =>
    refine call_list_reprK he rfl rfl out (by simpa using k.length_eq) (fun i y e => k.item i y (by simpa using e)) (A := X.A.in1) hg (fun b _ => Clear.nil b) (by show X.A.units + 1 + _ < _; omega) (fun _ _ z => z) (fun h' u tk kp => ⟨_, _, rfl, ?_⟩) hz'
    have e0 : PyData.shown (.list ds) = listText (PyData.shownAll ds) := by simp only [PyData.shown]
    rw [← e0]
    exact fin h' u tk kp
end Mine

set_option Elab.async false
set_option linter.all false
set_option maxRecDepth 100000
set_option maxHeartbeats 4000000
/-! o.m(k1 = .., k2 = ..) of a method with two parameters, named the other way round. -/
namespace Mine
open PySem PySem.Spec PyProof.Rows L2
section
variable {X : Cx} {k : Nat} {f C : Addr} {fd : FuncData} {ps : List Str} {sp : L2.Sp} {m k1 k2 : Str} {pos apos : Pos} {o : Expr} {kws : List Keyword} {ta : TE} {tk : TA}
def tMethK2 (C : Addr) (m : Str) (sp : L2.Sp) (ta : TE) (tk : TA) : TE := fun σ H Q => ta σ H fun x H1 => ∃ a dx fs, x = .ref a ∧ H1 a = some (.ins C dx fs) ∧ fs.lookup m = none ∧ tk σ H1 fun zs H2 => ∃ u v, zs = [u, v] ∧ sp [x, v, u] H2 Q E0
theorem pe_methK2 {pl : Sem Bool} (he : PE X o ta) (c : Cls X.K C) (hm : Meth X.K C m f) (F : FnOk X.prog X.w X.K X.mg X.base CX0 k f fd ps sp) (hr : Room k X.A) (hps : ps.length = 3)
    (hb : ∀ (s : Shared) (a u v : Value), BindsTo s fd ⟨[a], [(k1, u), (k2, v)]⟩ (ps.zip [a, v, u])) (hkw : PK X kws tk)
    (hall : (backToKw pos (keywordEach kws X.env)).all (·.1.isSome) = true := by rfl) (hks : (backToKw pos (keywordEach kws X.env)).filterMap (·.1) = [k1, k2] := by rfl)
    (hpl : ((backTo pos (starEach [] X.env)).any (·.1) || (backToKw pos (keywordEach kws X.env)).any (·.1.isNone)) = false := by rfl)
    (ht : eval (.Call (.Attribute o m apos) [] kws pos) X.env = (do
      let ov ← eval o X.env
      standAt apos.atName
      let (f, first) ← holding [ov] (getMethod ov m pl)
      callWith pos f first (backTo pos (starEach [] X.env)) (backToKw pos (keywordEach kws X.env))) := by rfl) :
    PE X (.Call (.Attribute o m apos) [] kws pos) (tMethK2 C m sp ta tk) := by
  refine ⟨fun pins s σ H Q I h => ?_⟩
  refine PySem.W.methodCall_KW (pl := pl) (thn (he.run pins s σ H _ I h) fun u s1 ⟨x, H1, I1, rx, a, dx, fs, ex, ea, l, q⟩ => ?_) ht
  subst ex
  obtain rfl : u = Value.ref a := rx
  refine getmeth_ok I1 ea c hm l ?_
  refine PySem.W.callWith_KW0 (first := [.ref a]) (h₀ := X.base) I.ok.mod.kin hm.kp hall ?_ hpl
  refine thn (hkw.run pos pins s1 σ H1 _ I1 q) fun ws s2 ⟨zs, H2, I2, rz, uu, vv, ez, q2⟩ => ⟨I2.kIn, ?_⟩
  subst ez
  obtain ⟨w1, w2, ew, r1, r2⟩ := vals2 rz
  subst ew
  rw [hks]
  show wpAny _ _ (call (.ref f) [.ref a] [(k1, w1), (k2, w2)]) _ _ _
  refine wpAny_call (codeAny_mono (F.run X.A X.stack s2 H2 ⟨[.ref a], [(k1, w1), (k2, w2)]⟩ [.ref a, w2, w1] [.ref a, vv, uu] Q E0 hr I2.env0 (hb s2 (.ref a) w1 w2) (.cons rfl (.cons r2 (.cons r1 .nil))) q2) fun r s' hq => ?_)
  cases r with
  | error e => exact pass0 pins σ H2 s2 e s' I2 hq
  | ok fl =>
    cases fl with
    | ret u => exact I2.after hq
    | next => exact False.elim hq
    | brk => exact False.elim hq
    | cont => exact False.elim hq
end
end Mine

set_option Elab.async false
set_option linter.all false
set_option maxRecDepth 100000
set_option maxHeartbeats 4000000
/-! str(x) of an instance with a def for its text. -/
namespace Mine
open PySem PySem.Spec PyProof.Rows L2
section
variable {X : Cx} {n : Nat} {C f : Addr} {fd : FuncData} {ps : List Str} {sp : L2.Sp}
def rStrOwn (C : Addr) (sp : L2.Sp) : List V → Hp → VK → Prop := fun xs H Q => ∃ a dx fs, xs = [.ref a] ∧ H a = some (.ins C dx fs) ∧ sp [.ref a] H (fun v H' => ∃ y, v = .str y ∧ Q (.str y) H') E0
theorem call_strOwn (F : FnOk X.prog X.w X.K X.mg X.base CX0 n f fd ps sp) (hr : Room (n + 2) X.A) (hs : PySem.W.findIn X.K (.ref C) "__str__" = some (some (.ref f))) (hf : PySem.W.isFn X.K (.ref f) = true) (hb : Binds X.K fd ps []) : CallR X (.type "str") (rStrOwn C sp) := by
  intro pins s σ H xs us Q I r h
  obtain ⟨a, dx, fs, rfl, ha, hsp⟩ := h
  obtain ⟨u, rfl, rx⟩ := vals1 r
  cases rx
  obtain ⟨mA, J, _⟩ := ins_get I.hok ha
  obtain ⟨od, J, _⟩ := J.look
  have hr1 : Room (n + 1) X.A.in1 := Room.in1 hr
  have hr2 : Room n X.A.in1.in1 := hr1.in1
  refine PySem.W.kso_call hr2.units0 I.kIn J hs hf ?_
  have e0 : Env0 X.prog X.w X.K X.mg X.base X.A.in1.in1 X.stack s H := by
    have e := I.env0
    exact ⟨e.frames, e.mod, e.bs, e.bsz, e.funs, e.frf, e.hok, e.bare⟩
  have hl := F.len _ _ _ _ hsp
  have r2 : Vals [V.ref a] [Value.ref a] := .cons rfl .nil
  refine wpAny_call (codeAny_mono (F.run X.A.in1.in1 X.stack s H ⟨[.ref a], []⟩ [.ref a] [.ref a] _ E0 hr2 e0 (by
    have := hb s [.ref a] I.kIn (by simpa using hl)
    simpa using this) r2 hsp) fun r s' hq => ?_)
  cases r with
  | error e => exact pass0 pins σ H s e s' I hq
  | ok fl =>
    cases fl with
    | ret w =>
      obtain ⟨z, H', I', rz, y, ez, q⟩ := I.after hq
      subst ez
      obtain ⟨t, rfl⟩ := rz
      exact ⟨.str y, H', I', ⟨t, rfl⟩, q⟩
    | next => exact False.elim hq
    | brk => exact False.elim hq
    | cont => exact False.elim hq
end
end Mine

set_option Elab.async false
set_option linter.all false
set_option maxRecDepth 100000
set_option maxHeartbeats 4000000
/-! C.m(k = ..) of a classmethod with one parameter beside the class. -/
namespace Mine
open PySem PySem.Spec PyProof.Rows L2 ClX
section
variable {X : Cx} {k : Nat} {C p g : Addr} {mc : Value} {sp : L2.Sp} {fd : FuncData} {ps : List Str} {m k1 : Str} {pos apos : Pos} {o : Expr} {kws : List Keyword} {ta : TE} {tk : TA}
def tCMethK (C : Addr) (sp : L2.Sp) (ta : TE) (tk : TA) : TE := fun σ H Q => ta σ H fun x H1 => x = .ref C ∧ tk σ H1 fun zs H2 => ∃ v, zs = [v] ∧ sp [.ref C, v] H2 Q E0
theorem pe_cmethK {pl : Sem Bool} (he : PE X o ta) (r : CRead X.K C mc) (c : CMet X.K C mc m p g) (F : FnOk X.prog X.w X.K X.mg X.base CX0 k g fd ps sp) (hr : Room k X.A)
    (hb : ∀ (s : Shared) (a u : Value), BindsTo s fd ⟨[a], [(k1, u)]⟩ (ps.zip [a, u])) (hkw : PK X kws tk)
    (hall : (backToKw pos (keywordEach kws X.env)).all (·.1.isSome) = true := by rfl) (hks : (backToKw pos (keywordEach kws X.env)).filterMap (·.1) = [k1] := by rfl)
    (hpl : ((backTo pos (starEach [] X.env)).any (·.1) || (backToKw pos (keywordEach kws X.env)).any (·.1.isNone)) = false := by rfl)
    (ht : eval (.Call (.Attribute o m apos) [] kws pos) X.env = (do
      let ov ← eval o X.env
      standAt apos.atName
      let (f, first) ← holding [ov] (getMethod ov m pl)
      callWith pos f first (backTo pos (starEach [] X.env)) (backToKw pos (keywordEach kws X.env))) := by rfl) :
    PE X (.Call (.Attribute o m apos) [] kws pos) (tCMethK C sp ta tk) := by
  refine ⟨fun pins s σ H Q I h => ?_⟩
  refine PySem.W.methodCall_KW (pl := pl) (thn (he.run pins s σ H _ I h) fun u s1 ⟨x, H1, I1, rx, ex, q⟩ => ?_) ht
  subst ex
  obtain rfl : u = Value.ref C := rx
  refine getmethcm_ok I1 r c fun s2 I2 => ?_
  refine PySem.W.callWith_of hpl (PySem.W.keeps_M (K := X.K) (self := .ref C) c.fi) (evalArgs_kw2_nil hall ?_)
  refine thn (hkw.run pos _ s2 σ H1 _ I2 q) fun ws s3 ⟨zs, H2, I3, rz, v, ez, q2⟩ => ⟨⟨pin_at I3, I3.kIn⟩, ?_⟩
  subst ez
  obtain ⟨w1, ew, r1⟩ := vals1 rz
  subst ew
  rw [hks]
  show wpAny _ _ (call (.ref _) [] [(k1, w1)]) _ _ _
  have z : wpAny (model X.prog X.w) X.A (call (.ref s1.heap.objs.size) [] [(k1, w1)]) (EP X ((s1.heap.objs.size, PySem.W.methodObj (.ref g) (.ref C)) :: pins) σ Q) X.xe s3 := by
    refine wpAny_call (PySem.W.method_call (pin_at I3) (codeAny_mono (F.run X.A X.stack s3 H2 ⟨[.ref C], [(k1, w1)]⟩ [.ref C, w1] [.ref C, v] Q E0 hr I3.env0 (hb s3 (.ref C) w1) (.cons rfl (.cons r1 .nil)) q2) fun r s' hq => ?_))
    cases r with
    | error e => exact pass0 _ σ H2 s3 e s' I3 hq
    | ok fl =>
      cases fl with
      | ret u => exact I3.after hq
      | next => exact False.elim hq
      | brk => exact False.elim hq
      | cont => exact False.elim hq
  exact thn z fun _ _ y => unpinE y
end
end Mine

set_option Elab.async false
set_option linter.all false
set_option maxRecDepth 100000
set_option maxHeartbeats 4000000
/-! d.get(key, other) of a dict that the top has left. -/
namespace Mine
open PySem PySem.Spec PyProof.Rows L2
section
variable {X : Cx} {d : Addr} {es : Array DictEntry} {n : Nat} {o e f : Expr} {apos cpos : Pos} {td ty tx : TE}
def tKGet (K : PySem.W.Frag) (d : Addr) (td ty tx : TE) : TE := fun σ H Q => td σ H fun x H1 => x = .ref d ∧ ty σ H1 fun y H2 => tx σ H2 fun z H3 => ∃ (k : Str), y = .str k ∧
  ((PySem.W.nsIn K d k = some none ∧ Q z H3) ∨ ∃ (u0 : Value) (v0 : V), PySem.W.nsIn K d k = some (some u0) ∧ RelV v0 u0 ∧ Q v0 H3)
theorem pe_kget (D : KDict X.K X.w d es n) (ho : PE X o td) (he : PE X e ty) (hf : PE X f tx) (m : M2 X o "get" apos e f cpos) : PE X (.Call (.Attribute o "get" apos) [e, f] [] cpos) (tKGet X.K d td ty tx) := by
  refine ⟨fun pins s σ H Q I h => ?_⟩
  refine wpAny_Call_method m.base m.few m.line PySem.F.plainAttrs_dict PySem.F.slot_dict_get PySem.F.type_dict_get (thn (ho.run pins s σ H _ I h) fun u s1 ⟨x, H1, I1, rx, ex, q1⟩ => ?_)
  subst ex
  obtain rfl : u = Value.ref d := rx
  refine ⟨kd_type D I1, fun b q => ?_, ?_⟩
  · cases q
    exact ⟨_, I1.kIn _ _ D.at_, rfl⟩
  rw [m.trees]
  refine Calls.callWith_builtin rfl (Calls.evalArgs_plain (Calls.spliced_cons (thn (he.run pins s1 σ H1 _ I1 q1) fun iv s2 ⟨y, H2, I2, ry, q2⟩ =>
    Calls.spliced_cons (thn (hf.run pins s2 σ H2 _ I2 q2) fun fv s3 ⟨z, H3, I3, rz, k, ek, q3⟩ => Calls.spliced_nil ?_))))
  subst ek
  obtain ⟨t, rfl⟩ := ry
  have mp := PySem.W.mapOf_K (prog := X.prog) (w := X.w) I3.kIn D.at_ D.lit
  refine call_meetsIn PySem.F.slot_dict_get mp.typeIs PySem.F.entry_dict_get (PySem.F.args_dict_get_3 _ _ _) (meets_dict_get_default (strKind X.prog X.w) d (PySem.strKind_is X.prog X.w k t) D.low fv) ⟨_, mp, ?_⟩
  rcases q3 with ⟨e0, q⟩ | ⟨u0, v0, e0, r0, q⟩
  · rw [PySem.W.find_K D.at_ e0]
    exact ⟨z, H3, I3.tok _, rz, q⟩
  · rw [PySem.W.find_K D.at_ e0]
    exact ⟨v0, H3, I3.tok _, r0, q⟩
end
end Mine

set_option Elab.async false
set_option linter.all false
set_option maxRecDepth 100000
set_option maxHeartbeats 4000000
/-! A comprehension of two clauses over tuples. -/
namespace Mine
open PySem PySem.Spec PyProof.Rows L2
theorem in_tup {K : PySem.W.Frag} {a D : Addr} {xs : List V} {g1 : TG} {tt1 : TT} {te : TE} {vs1 : List Nat} {σ2 : L2.St} {H4 : Hp} {N : Hp → Prop} (Pw : Nat → Hp → Prop) (h0 : Pw 0 H4) (hl : ∀ i H, i ≤ xs.length → Pw i H → SqT K H a xs)
    (hs : ∀ j x H, xs[j]? = some x → Pw j H → g1 x (wipe σ2 vs1) H fun σ3 H5 => wipe σ3 vs1 = wipe σ2 vs1 ∧ tt1 σ3 H5 fun b H6 =>
      if b = true then te σ3 H6 fun y H7 => ∃ acc, H7 D = some (.lst acc) ∧ acc.length < sizeLine ∧ Pw (j + 1) (upd H7 D (.lst (acc ++ [y]))) else Pw (j + 1) H6) (hd : ∀ H, Pw xs.length H → N H) :
    ∃ W1 : Nat → Nat → Hp → Prop, (∃ m, W1 0 m H4) ∧ ∀ j k H, W1 j k H → ((Itt K a).stop j H ∧ N H) ∨ ((Itt K a).go j H ∧ ∃ Nx1 : Hp → Prop, (∀ H', Nx1 H' → ∃ k', k' < k ∧ W1 (j + 1) k' H') ∧
      ∀ x H', (Itt K a).yld j H x H' → g1 x (wipe σ2 vs1) H' fun σ3 H5 => wipe σ3 vs1 = wipe σ2 vs1 ∧ tt1 σ3 H5 fun b H6 => if b = true then te σ3 H6 fun y H7 => ∃ acc, H7 D = some (.lst acc) ∧ acc.length < sizeLine ∧ Nx1 (upd H7 D (.lst (acc ++ [y]))) else Nx1 H6) := by
  refine ⟨fun i m H => m = xs.length - i ∧ i ≤ xs.length ∧ Pw i H, ⟨xs.length, by simp, Nat.zero_le _, h0⟩, ?_⟩
  rintro i m H ⟨rfl, hi, p⟩
  have q := hl i H hi p
  by_cases hlt : i < xs.length
  · refine .inr ⟨⟨xs, xs[i], q, by simp [hlt]⟩, Pw (i + 1), fun H' p' => ⟨xs.length - (i + 1), by omega, rfl, hlt, p'⟩, fun x H' y => ?_⟩
    obtain ⟨e, y⟩ := y
    subst e
    exact hs i x _ (y xs q) p
  · have e : i = xs.length := by omega
    subst e
    exact .inl ⟨⟨xs, q, Nat.le_refl _⟩, hd H p⟩
/-- the first clause over a tuple: T i says the second clause's own loop, whose end is Pv (i + 1) -/
theorem out_tup {K : PySem.W.Frag} {a D : Addr} {xs : List V} {H1 : Hp} {Qd : Hp → Prop} {T : V → Hp → (Hp → Prop) → Prop} (Pv : Nat → Hp → Prop) (h0 : Pv 0 (upd H1 D (.lst []))) (hl : ∀ i H, i ≤ xs.length → Pv i H → SqT K H a xs)
    (hs : ∀ i x H, xs[i]? = some x → Pv i H → T x H (Pv (i + 1))) (hd : ∀ H, Pv xs.length H → Qd H) :
    ∃ W : Nat → Nat → Hp → Prop, (∃ m, W 0 m (upd H1 D (.lst []))) ∧ ∀ i m H, W i m H → ((Itt K a).stop i H ∧ Qd H) ∨ ((Itt K a).go i H ∧ ∃ Nx : Hp → Prop, (∀ H', Nx H' → ∃ m', m' < m ∧ W (i + 1) m' H') ∧ ∀ x H', (Itt K a).yld i H x H' → T x H' Nx) := by
  refine ⟨fun i m H => m = xs.length - i ∧ i ≤ xs.length ∧ Pv i H, ⟨xs.length, by simp, Nat.zero_le _, h0⟩, ?_⟩
  rintro i m H ⟨rfl, hi, p⟩
  have q := hl i H hi p
  by_cases hlt : i < xs.length
  · refine .inr ⟨⟨xs, xs[i], q, by simp [hlt]⟩, Pv (i + 1), fun H' p' => ⟨xs.length - (i + 1), by omega, rfl, hlt, p'⟩, fun x H' y => ?_⟩
    obtain ⟨e, y⟩ := y
    subst e
    exact hs i x _ (y xs q) p
  · have e : i = xs.length := by omega
    subst e
    exact .inl ⟨⟨xs, q, Nat.le_refl _⟩, hd H p⟩
end Mine

set_option Elab.async false
set_option linter.all false
set_option maxRecDepth 100000
set_option maxHeartbeats 4000000
/-! for i, x in enumerate(xs, start=c): a list numbered from c on. -/
namespace Mine
open PySem PySem.Spec PyProof.Rows L2
theorem callWith_typeK {M : Model} {A : Around} {E : Value → Shared → Prop} {s : Shared} {pos : Pos} {T : String} {first : List Value} {args : List (Bool × Sem Value)} {keywords : List (Option Str × Sem Value)} {Q : Value → Shared → Prop}
    (hplain : args.any (·.1) = false) (hkw : keywords.any (·.1.isNone) = false)
    (h : wpAny M A (evalArgs (.type T) true args keywords) (fun a s₁ => wpAny M A (call (.type T) (first ++ a.pos) a.kw) Q E s₁) E s) :
    wpAny M A (callWith pos (.type T) first args keywords) Q E s := by
  unfold callWith
  refine wpAny_bind (wpAny_holding (wpAny_mono h (fun a s₁ h₁ => wpAny_bind (wpAny_standAt ?_)) fun _ _ x => x))
  simp only [hplain, hkw, Bool.or_false]
  refine wpAny_bind (wpAny_pure ?_)
  exact wpAny_bind (wpAny_mono h₁ (fun r s₂ hr => wpAny_bind (wpAny_holding (wpAny_point (wpAny_pure hr)))) fun _ _ x => x)
/-- an enumerate object whose list is at its end, whatever its number -/
theorem enum_over {P : Program} {w : World} {A : Around} {E : Value → Shared → Prop} {s : Shared} {e it l : Addr} {i : Nat} {c : Int} {items : Array Value} {old : Value} {Q : Option Value → Shared → Prop} (hd : A.handled = none)
    (ob : IsEnum s.heap e it c old) (at_ : s.heap.IsListIter it l i) (ls : s.heap.IsList l items) (no : items[i]? = none) (go : ∀ h', Heap.ExtBut it s.heap h' → Q none { s with heap := h' }) :
    wpAny (model P w) A (pyNext (.ref e)) Q E s := by
  unfold pyNext
  have ty : s.TypeIs (.ref e) "enumerate" := ⟨_, ob, rfl⟩
  refine wpAny_bind (wpAny_attempt (wpAny_callSpecial?_slot (name := Str.ofString "__next__") ty F.slot_enumerate_next (wpAny_call_entry F.slot_enumerate_next ty F.entry_enumerate_next ?q1 (F.args_enumerate_next_1 _))))
  case q1 =>
    show wpAny _ _ (field (.ref e) 2 >>= _) _ _ _
    refine wpAny_bind (wpAny_field ob rfl (x := .ref it) rfl (wpAny_bind (wpAny_nextOf_list_end hd at_ ls no fun h' z eb hz => ?_)))
    obtain ⟨oz, gz, cz⟩ := hz
    exact wpAny_bind (wpAny_isInstance (T := "StopIteration") (b := true) ⟨oz, gz, cz⟩ isSubtype_stop (wpAny_pure (go _ eb)))
/-- item i of the list at a, numbered c + i, in a new pair -/
def IteS (K : PySem.W.Frag) (c : Int) (a : Addr) : It where
  go := fun i H => ∃ xs x, SqL K H a xs ∧ xs[i]? = some x
  yld := fun i H v H' => ∃ T x, v = .ref T ∧ H T = none ∧ H' = upd H T (.tup [.int (c + (i : Nat)), x]) ∧ ∀ xs, SqL K H a xs → xs[i]? = some x
  stop := fun i H => ∃ xs, SqL K H a xs ∧ xs.length ≤ i
/-- where such a walk stands: the number that comes next, the place in the list, and that the three objects are three -/
def EnAt (c : Int) (a e it : Addr) (i : Nat) (h : Heap) : Prop := (∃ old, IsEnum h e it (c + ((i : Nat) : Int)) old) ∧ h.IsListIter it a i ∧ e ≠ it ∧ a ≠ it ∧ a ≠ e
theorem EnAt.to {c : Int} {a e it : Addr} {i : Nat} {h h' : Heap} (x : EnAt c a e it i h) (ke : ∀ o, h.get? e = some o → h'.get? e = some o) (ki : ∀ o, h.get? it = some o → h'.get? it = some o) : EnAt c a e it i h' := by
  obtain ⟨⟨old, he⟩, hi, n⟩ := x
  exact ⟨⟨old, ke _ he⟩, hi.at ki, n⟩
theorem two_of {b e it : Addr} (h : b ∈ [e, it]) : b = e ∨ b = it := by simpa using h
theorem off_two {b e it : Addr} (h : b ∉ [e, it]) : b ≠ e ∧ b ≠ it := ⟨fun z => h (by simp [z]), fun z => h (by simp [z])⟩
theorem turn_enumS {P : Program} {w : World} {K : PySem.W.Frag} {elts : List Expr} {kk : Nat} {tpos : Pos} (c : Int) (a e it : Addr) : Turn P w K (.Tuple elts kk tpos) (IteS K c a) [e, it] e (EnAt c a e it) := by
  refine { mem := List.mem_cons_self .., obj := ?ob, keep := fun i h h' x k => x.to (k e (by simp)) (k it (by simp)), item := ?nx, done := ?en, self := fun A i s Q E x h => wpAny_pyIter_enum x.1.choose_spec h }
  case ob =>
    intro i h x b hb
    obtain ⟨⟨old, he⟩, ⟨o, ho, _, hd⟩, _⟩ := x
    rcases two_of hb with rfl | rfl
    · exact ⟨_, he, fun _ q => nomatch q⟩
    · refine ⟨o, ho, fun v q => ?_⟩
      rw [hd] at q
      cases q
  case nx =>
    rintro X rfl rfl rfl hc i pins s σ H E I hf ⟨⟨old, he⟩, hit, hne, n1, n2⟩ ⟨xs, x, hq, hx⟩
    obtain ⟨its, rv, pl, _⟩ := I.list hq
    obtain ⟨u, hu, ru⟩ := rv.get hx
    have le : e < s.heap.objs.size := Heap.lt_size he
    have li : it < s.heap.objs.size := Heap.lt_size hit.choose_spec.1
    have in_ : i < its.toArray.size := by simpa using (List.getElem?_eq_some_iff.mp hu).1
    have D := Draws.list (prog := X.prog) (w := X.w) (A := X.A.in1) (I.ok.hd hc) it a n1 its.toArray
    refine wpAny_pyNext_enum_itemC D he ⟨hit, pl.isList⟩ in_ hne (by simp [hne, Ne.symm n2]) fun z h1 tk hz out st1 tup _ kp => ?_
    obtain rfl : z = u := by
      have e2 : its.toArray[i]? = some u := by simpa using hu
      exact Option.some.inj ((show its.toArray[i]? = some z from hz).symm.trans e2)
    refine ⟨_, rfl, wpAny_letOwnedTupleGo_enum (s := { s with heap := h1, toks := tk + 1 }) out fun h2 he2 sb => ?_⟩
    have ob : ObjOk X.prog X.w (upd H s.heap.objs.size (.tup [.int (c + (i : Nat)), x])) h2 s.heap.objs.size (.tup [.int (c + (i : Nat)), x]) := by
      refine ⟨(by show 2 ≤ sizeLine; decide), [.int (c + (i : Nat)) tk, z], .cons ⟨_, rfl⟩ (.cons ru .nil), _, (sb.2 _ (Nat.ne_of_gt le)).trans tup, rfl, _, rfl⟩
    refine ⟨.ref s.heap.objs.size, _, I.turnedNew (t' := tk + 1) (ch := [e, it]) (fun b o hb g => (sb.2 b (off_two hb).1).trans (kp b o (off_two hb).1 (off_two hb).2 g)) hf (Nat.le_refl _) ob, rfl,
      ⟨_, x, rfl, I.hok.fresh (Nat.le_refl _), rfl, fun ys hy => I.list_inj hq hy ▸ hx⟩, ⟨⟨z, ?_⟩, st1.1.at fun o g => (sb.2 it (Ne.symm hne)).trans g, hne, n1, n2⟩, fun b hb => ?_⟩
    · rw [show c + ((i + 1 : Nat) : Int) = c + (i : Int) + 1 by omega]
      exact he2
    · have lb : b < s.heap.objs.size := (two_of hb).elim (fun z => z ▸ le) fun z => z ▸ li
      exact (upd_ne (Nat.ne_of_lt lb)).trans (hf b hb).1
  case en =>
    rintro X rfl rfl rfl hc i pins s σ H E I hf ⟨⟨old, he⟩, hit, _⟩ ⟨xs, hq, hx⟩
    obtain ⟨its, rv, pl, _⟩ := I.list hq
    have none_ : its.toArray[i]? = none := by
      have := rv.length
      simp
      omega
    obtain ⟨f0, f1, _, f3, f4, f5⟩ := hf it (by simp)
    exact enum_over (I.ok.hd hc) he hit pl.isList none_ fun h' eb => ⟨rfl, I.turned (t' := s.toks) (fun b o hb g => eb b o hb g) f0 f1 f3 f4 f5⟩
section
variable {X : Cx} {elts : List Expr} {kk : Nat} {p pos tpos kpos : Pos} {e : Expr} {ta : TA} {kp : Pos} {jj : Nat} {c : Int}
def iEnumS (K : PySem.W.Frag) (c : Int) (ta : TA) (tk : TA) : TI := fun σ H R => ta σ H fun vs H1 => ∃ a xs, vs = [.ref a] ∧ SqL K H1 a xs ∧ tk σ H1 fun zs H2 => zs = [.int c] ∧ SqL K H2 a xs ∧ -(2 ^ 63) ≤ c ∧ c < 2 ^ 63 ∧ R (IteS K c a) H2
theorem pi_enumS {kws : List Keyword} {tk : TA} (hg : Gl X "enumerate") (hm : X.mg "enumerate" = none) (ha : PA X [e] ta) (hk : PK X kws tk) (hs : starEach [e] X.env = [(false, eval e X.env)] := by rfl)
    (hall : (backToKw pos (keywordEach kws X.env)).all (·.1.isSome) = true := by rfl) (hks : (backToKw pos (keywordEach kws X.env)).filterMap (·.1) = [PySem.Str.ofString "start"] := by rfl) (hno : (backToKw pos (keywordEach kws X.env)).any (·.1.isNone) = false := by rfl) :
    PI X (.Tuple elts kk tpos) (.Call (.Name "enumerate" p) [e] kws pos) (iEnumS X.K c ta tk) := by
  refine ⟨fun pins s σ H R I h => ?_⟩
  refine wpAny_Call_Name_kw (ld_blt I hg hm boot_enumerate (callWith_typeK (by rw [hs]; rfl) hno (evalArgs_kw2 hall (thn (ha.run pos pins s σ H _ I h) fun us s1 ⟨vs, H1, I1, r1, q1⟩ => ?_) hs)))
  obtain ⟨a, xs, ex, hq, q⟩ := q1
  subst ex
  obtain ⟨u, rfl, r⟩ := vals1 r1
  cases r
  refine thn (hk.run pos pins s1 σ H1 _ I1 q) fun ws s2 ⟨zs, H2, I2, rz, ez, hq2, c0, c1, q2⟩ => ?_
  subst ez
  obtain ⟨w1, rfl, rw1⟩ := vals1 rz
  obtain ⟨tt, rfl⟩ := rw1
  rw [hks]
  obtain ⟨its, rv, pl, hz⟩ := I2.list hq2
  show wpAny _ _ (call (.type "enumerate") [.ref a] [(PySem.Str.ofString "start", .int c tt)]) _ _ _
  refine enum_begins_start (begins_list a its.toArray) pl.isList c0 c1 fun h' he hit hsz hkp => wpAny_pyIter_enum he ?_
  have I3 : L2.Inv X pins σ H2 { s2 with heap := h' } := I2.kept (t' := s2.toks) hkp
  have al : a < s2.heap.objs.size := by
    obtain ⟨o, ho, _⟩ := pl.isList
    exact Heap.lt_size ho
  refine ⟨s2.heap.objs.size + 1, [s2.heap.objs.size + 1, s2.heap.objs.size], _, _, H2, rfl, I3, turn_enumS c a (s2.heap.objs.size + 1) s2.heap.objs.size, ⟨⟨.none, ?_⟩, ⟨_, hit, rfl, rfl⟩, Nat.succ_ne_self _, Nat.ne_of_lt al, Nat.ne_of_lt (Nat.lt_succ_of_lt al)⟩, fun b hb => ?_, q2⟩
  · have e1 : c + ((0 : Nat) : Int) = c := by omega
    rw [e1]
    exact he
  · have hle : s2.heap.objs.size ≤ b := by
      have e' : b = s2.heap.objs.size + 1 ∨ b = s2.heap.objs.size := by simpa using hb
      rcases e' with z | z
      · rw [z]; exact Nat.le_add_right _ _
      · rw [z]; exact Nat.le_refl _
    exact I2.fpOk hle (I2.hok.fresh hle)
end
end Mine

set_option Elab.async false
set_option linter.all false
set_option maxRecDepth 100000
set_option maxHeartbeats 4000000
/-! cls(..): a call of a class that stands in a slot (the first parameter of a classmethod). -/
namespace Mine
open PySem PySem.Spec PyProof.Rows L2 ClX
section
variable {X : Cx} {CX : CXT} {k : Nat} {f C : Addr} {fd : FuncData} {ps : List Str} {ds : List Value} {dvs : List V} {sp : L2.Sp} {E : XK} {x : Str} {p pos : Pos} {e : Expr} {es : List Expr} {t : TA} {tn : TE}
def tMakeL (C : Addr) (sp : L2.Sp) (dvs : List V) (E : XK) (tn : TE) (t : TA) : TE := fun σ H Q => tn σ H fun y H1 => y = .ref C ∧ tMake C sp dvs E t σ H1 Q
theorem pe_makeL (M : Mk X.K C f) (F : FnOk X.prog X.w X.K X.mg X.base CX k f fd ps sp) (hr : Room (k + 1) X.A) (hn : PE X (.Name x p) tn) (hb : Binds X.K fd ps ds) (hd : Vals dvs ds) (hx : Passes CX X E)
    (ha : PA X (e :: es) t) (he : starEach (e :: es) X.env = (false, eval e X.env) :: starEach es X.env := by rfl) (hpl : (backTo pos (starEach es X.env)).any (·.1) = false := by rfl) :
    PE X (.Call (.Name x p) (e :: es) [] pos) (tMakeL C sp dvs E tn t) := by
  refine ⟨fun pins s σ H Q I h => ?_⟩
  refine PySem.wpAny_Call_Name_kw (thn (hn.run pins s σ H _ I h) fun u s1 ⟨y, H1, I1, ry, ey, q⟩ => ?_)
  subst ey
  obtain rfl : u = Value.ref C := ry
  refine PySem.W.callWith_K (h₀ := X.base) I1.ok.mod.kin M.kp (thn (ha.run pos pins s1 σ H1 _ I1 q) fun us s2 ⟨vs, H2, I2, r, q2⟩ => ⟨I2.kIn, ?_⟩) he hpl
  exact run_make M F hr hb hd hx I2 r q2
end
end Mine

set_option Elab.async false
set_option linter.all false
set_option maxRecDepth 100000
set_option maxHeartbeats 4000000
/-! The text of a list or a tuple, whose items stand anywhere: tracked, locked, or left by the top. -/
namespace Mine
open PySem PySem.Spec PyProof.Rows L2
section
variable {X : Cx} {pins : List (Addr × Obj)} {σ : L2.St} {H : Hp} {s : Shared}
mutual
theorem dp_rk (I : L2.Inv X pins σ H s) : ∀ (d : PyData) (v : V) (u : Value), Dp X.K H v d → L2.RelV v u → d.showable = true → d.shown.length ≤ sizeLine → Rk X.prog X.w s.heap u d
  | .none, _, _, h, r, _, _ => by
    cases h; cases r
    exact Rk.leaf .none (by simp only [PyData.shown]; exact ReprIs.none)
  | .bool b, _, _, h, r, _, _ => by
    cases h; cases r
    exact Rk.leaf (.bool b) (by simp only [PyData.shown]; exact ReprIs.bool b)
  | .int i, _, _, h, r, ok, _ => by
    cases h
    obtain ⟨t, rfl⟩ := r
    exact Rk.leaf (.int i t) (by simp only [PyData.shown]; exact ReprIs.int t (by simpa [PyData.showable] using ok))
  | .str x, _, _, h, r, _, hz => by
    cases h
    obtain ⟨t, rfl⟩ := r
    exact Rk.leaf (.str x t) (by simp only [PyData.shown]; exact ReprIs.str x t (by simpa only [PyData.shown] using hz))
  | .list ds, _, _, h, r, ok, hz => by
    cases h with
    | lst e r' =>
      cases r
      obtain ⟨its, rv, ⟨o, n, he, hc, _, hd⟩, _⟩ := I.list e
      have hz' : (listText (PyData.shownAll ds)).length ≤ sizeLine := by simpa only [PyData.shown] using hz
      exact Rk.list he hc hd (dps_rks I ds _ its r' rv (by simpa [PyData.showable] using ok) fun t ht => Nat.le_trans (listText_mem_le ht) hz')
  | .tuple ds, _, _, h, r, ok, hz => by
    cases h with
    | tup e r' =>
      cases r
      obtain ⟨its, rv, ⟨o, he, hc, n, hd⟩, _⟩ := I.tuple e
      have hz' : (tupleText (PyData.shownAll ds)).length ≤ sizeLine := by simpa only [PyData.shown] using hz
      exact Rk.tuple he hc hd (dps_rks I ds _ its r' rv (by simpa [PyData.showable] using ok) fun t ht => Nat.le_trans (tupleText_mem_le ht) hz')
  | .dict _, _, _, h, _, _, _ => by cases h
theorem dps_rks (I : L2.Inv X pins σ H s) : ∀ (ds : List PyData) (vs : List V) (us : List Value), DpAll X.K H vs ds → L2.Vals vs us → PyData.showableAll ds = true → (∀ t ∈ PyData.shownAll ds, t.length ≤ sizeLine) → Rks X.prog X.w s.heap us ds
  | [], _, _, h, r, _, _ => by
    cases h; cases r
    exact ⟨⟨_, .nil⟩, [], (fun _ z => nomatch z), .nil⟩
  | d :: ds, _, _, h, r, ok, hz => by
    have ok' : d.showable = true ∧ PyData.showableAll ds = true := by simpa [PyData.showableAll] using ok
    cases h with
    | cons h1 h2 =>
      cases r with
      | cons r1 r2 =>
        exact Rks.cons (dp_rk I d _ _ h1 r1 ok'.1 (hz _ (by simp only [PyData.shownAll]; exact List.mem_cons_self ..))) (dps_rks I ds _ _ h2 r2 ok'.2 fun t ht => hz t (by simp only [PyData.shownAll]; exact List.mem_cons_of_mem _ ht))
end
end
/-- repr of a list or a tuple -/
def rReprP (K : PySem.W.Frag) : List V → Hp → VK → Prop := fun xs H Q => ∃ (a : Addr) (vs : List V) (ds : List PyData), xs = [.ref a] ∧ DpAll K H vs ds ∧
  ((SqL K H a vs ∧ Shows sizeLine 20 (.list ds) ∧ Q (.str (PyData.shown (.list ds))) H) ∨ (SqT K H a vs ∧ Shows sizeLine 20 (.tuple ds) ∧ Q (.str (PyData.shown (.tuple ds))) H))
theorem call_reprP {X : Cx} (hg : X.A.guards = some []) (hu : X.A.units + 40 < cLine) : CallR X (.builtin "repr") (rReprP X.K) := by
  intro pins s σ H xs us Q I r h
  obtain ⟨a, vs, ds, rfl, r', h⟩ := h
  obtain ⟨u, rfl, rv⟩ := vals1 r
  cases (show u = Value.ref a from rv)
  rcases h with ⟨e, S, q⟩ | ⟨e, S, q⟩
  · obtain ⟨its, rvs, ⟨o, n, he, hc, hdn, hd⟩, _⟩ := I.list e
    have hz' : (listText (PyData.shownAll ds)).length ≤ sizeLine := by simpa only [PyData.shown] using S.len
    have rks := dps_rks I ds _ its r' rvs (by simpa [PyData.showable] using S.ok) fun t ht => Nat.le_trans (listText_mem_le ht) hz'
    obtain ⟨⟨as, ra⟩, bs, m, k⟩ := rks
    have rd : Reads s.heap (.ref a) (.list ds) (a :: as) := .list he hc hd ra
    have out : a ∉ bs := not_mem_of_deeper rd (by simp only [PyData.depth]; omega) m
    have dep : PyData.depthAll ds + 1 ≤ 20 := by simpa only [PyData.depth] using S.dep
    have fin : ∀ h' u tk, (∀ b o, s.heap.get? b = some o → h'.get? b = some o) → L2.EP X pins σ Q (.str (PyData.shown (.list ds)) u) { s with heap := h', toks := tk } := fun h' u tk kp => ⟨.str _, H, I.kept kp, ⟨_, rfl⟩, q⟩
    refine call_repr_slot (by omega) ⟨_, he, hc⟩ PySem.F.slot_list_repr.toG ?_
    cases its with
    | nil =>
      cases ra
      refine call_list_repr_empty ⟨_, he, hc⟩ he hd ⟨_, _, rfl, ?_⟩
      have e0 : PyData.shown (.list []) = ("[]" : Str) := by simp only [PyData.shown, PyData.shownAll, listText_nil]
      rw [← e0]
      exact fin _ _ _ fun _ _ z => z
    | cons x l =>
      refine call_list_reprK he hc hd out (by simpa using k.length_eq) (fun i y e => k.item i y (by simpa using e)) (A := X.A.in1) hg (fun b _ => Clear.nil b) (by show X.A.units + 1 + _ < _; omega) (fun _ _ z => z) (fun h' u tk kp => ⟨_, _, rfl, ?_⟩) hz'
      have e0 : PyData.shown (.list ds) = listText (PyData.shownAll ds) := by simp only [PyData.shown]
      rw [← e0]
      exact fin h' u tk kp
  · obtain ⟨its, rvs, ⟨o, he, hc, n, hd⟩, _⟩ := I.tuple e
    have hz' : (tupleText (PyData.shownAll ds)).length ≤ sizeLine := by simpa only [PyData.shown] using S.len
    have rks := dps_rks I ds _ its r' rvs (by simpa [PyData.showable] using S.ok) fun t ht => Nat.le_trans (tupleText_mem_le ht) hz'
    obtain ⟨⟨as, ra⟩, bs, m, k⟩ := rks
    have rd : Reads s.heap (.ref a) (.tuple ds) as := .tuple he hc hd ra
    have out : a ∉ bs := not_mem_of_deeper rd (by simp only [PyData.depth]; omega) m
    have dep : PyData.depthAll ds + 1 ≤ 20 := by simpa only [PyData.depth] using S.dep
    have fin : ∀ h' u tk, (∀ b o, s.heap.get? b = some o → h'.get? b = some o) → L2.EP X pins σ Q (.str (PyData.shown (.tuple ds)) u) { s with heap := h', toks := tk } := fun h' u tk kp => ⟨.str _, H, I.kept kp, ⟨_, rfl⟩, q⟩
    refine call_repr_slot (by omega) ⟨_, he, hc⟩ PySem.F.slot_tuple_repr ?_
    refine call_tuple_reprK he hc hd out (by simpa using k) (A := X.A.in1) hg (fun b _ => Clear.nil b) (by show X.A.units + 1 + _ < _; omega) (fun _ _ z => z) (fun h' u tk kp => ⟨_, _, rfl, ?_⟩) hz'
    have e0 : PyData.shown (.tuple ds) = tupleText (PyData.shownAll ds) := by simp only [PyData.shown]
    rw [← e0]
    exact fin h' u tk kp
/-! tracked data is data that stands anywhere -/
mutual
theorem dp_of {K : PySem.W.Frag} {H : Hp} : ∀ (d : PyData) (v : V), d.canLay0 = true → DK H v d → Dp K H v d
  | .none, _, _, h => by cases h; exact .non
  | .bool b, _, _, h => by cases h; exact .bl b
  | .int i, _, _, h => by cases h; exact .int i
  | .str x, _, _, h => by cases h; exact .str x
  | .list ds, _, l, h => by
    cases h with
    | lst e r => exact .lst (SqL.of e) (dps_of ds _ (by simpa only [PyData.canLay0] using l) r)
  | .tuple ds, _, l, h => by
    cases h with
    | tup e r => exact .tup (SqT.of e) (dps_of ds _ (by simpa only [PyData.canLay0] using l) r)
  | .dict _, _, l, _ => by simp [PyData.canLay0] at l
theorem dps_of {K : PySem.W.Frag} {H : Hp} : ∀ (ds : List PyData) (vs : List V), PyData.canLayAll0 ds = true → DKs H vs ds → DpAll K H vs ds
  | [], _, _, h => by cases h; exact .nil
  | d :: ds, _, l, h => by
    have l' : d.canLay0 = true ∧ PyData.canLayAll0 ds = true := by simpa [PyData.canLayAll0] using l
    cases h with
    | cons h1 h2 => exact .cons (dp_of d _ l'.1 h1) (dps_of ds _ l'.2 h2)
end
end Mine

set_option Elab.async false
set_option linter.all false
set_option maxRecDepth 100000
set_option maxHeartbeats 4000000
/-! Unlike data have unlike texts (repr). -/
namespace Mine
open PySem PySem.Spec PyProof.Rows L2 TL
/-- data whose text tells it: numbers from 0 on, strings of ASCII's printable signs but ' and the backslash, no dicts -/
def signOk (c : Nat) : Bool := decide (32 ≤ c ∧ c < 127 ∧ c ≠ 39 ∧ c ≠ 92)
mutual
def plainD : PyData → Bool
  | .none | .bool _ => true
  | .int i => decide (0 ≤ i)
  | .str x => x.cps.toList.all signOk
  | .list ds | .tuple ds => plainDs ds
  | .dict _ => false
def plainDs : List PyData → Bool
  | [] => true
  | d :: ds => plainD d && plainDs ds
end
theorem sign_char : ∀ c < 127, signOk c = true → Builtin.Str.reprChar 39 c = [c] := by decide +kernel
theorem repr_fold {x : Str} (q : Nat) : ∀ (l : List Nat) (acc : Array Nat), (∀ c ∈ l, Builtin.Str.reprChar q c = [c]) → (l.foldl (fun out c => out ++ (Builtin.Str.reprChar q c).toArray) acc).toList = acc.toList ++ l
  | [], acc, _ => by simp
  | c :: l, acc, h => by
    rw [List.foldl_cons, h c (List.mem_cons_self ..), repr_fold (x := x) q l _ fun d hd => h d (List.mem_cons_of_mem _ hd)]
    simp
theorem tl_repr {x : Str} (h : x.cps.toList.all signOk = true) : tl (reprText x) = 39 :: (tl x ++ [39]) := by
  have hs : ∀ c ∈ tl x, signOk c = true := List.all_eq_true.mp h
  have no : x.cps.contains 39 = false := by
    cases e : x.cps.contains 39 with
    | false => rfl
    | true =>
      have m : (39 : Nat) ∈ tl x := by simpa using e
      exact absurd (hs 39 m) (by decide)
  have q : reprQuote x = 39 := by
    unfold reprQuote
    rw [no]
    rfl
  have ch : ∀ c ∈ tl x, Builtin.Str.reprChar 39 c = [c] := fun c hc => by
    have := hs c hc
    have l : c < 127 := by
      unfold signOk at this
      simp only [decide_eq_true_eq] at this
      exact this.2.1
    exact sign_char c l this
  unfold reprText
  rw [q]
  show (Array.push _ 39).toList = _
  rw [Array.toList_push, ← Array.foldl_toList, repr_fold (x := x) 39 _ _ ch]
  simp
def comma : List Nat := [44, 32]
theorem tl_comma : tl (Str.ofString ", ") = comma := by decide +kernel
/-- the signs of the text -/
abbrev sg (d : PyData) : List Nat := tl d.shown
theorem all_sg : ∀ ds : List PyData, (PyData.shownAll ds).map tl = ds.map sg
  | [] => by simp [PyData.shownAll]
  | d :: ds => by rw [PyData.shownAll_cons, List.map_cons, List.map_cons, all_sg ds]
theorem sg_list (ds : List PyData) : sg (.list ds) = 91 :: (joinL comma (ds.map sg) ++ [93]) := by
  show tl (PyData.shown _) = _
  have e : PyData.shown (.list ds) = listText (PyData.shownAll ds) := by simp only [PyData.shown]
  have e1 : tl (Str.ofString "[") = [91] := by decide +kernel
  have e2 : tl (Str.ofString "]") = [93] := by decide +kernel
  rw [e, listText_eq_join]
  show tl (Str.ofString "[" ++ Str.join (Str.ofString ", ") (PyData.shownAll ds) ++ Str.ofString "]") = _
  rw [tl_append, tl_append, tl_join, e1, e2, tl_comma, all_sg]
  rfl
def clo (n : Nat) : List Nat := if n = 1 then [44, 41] else [41]
theorem sg_tuple (ds : List PyData) : sg (.tuple ds) = 40 :: (joinL comma (ds.map sg) ++ clo ds.length) := by
  show tl (PyData.shown _) = _
  have e : PyData.shown (.tuple ds) = tupleText (PyData.shownAll ds) := by simp only [PyData.shown]
  have e1 : tl (Str.ofString "(") = [40] := by decide +kernel
  have e2 : ∀ n : Nat, tl (Str.ofString (if (n == 1) = true then ",)" else ")")) = clo n := fun n => by
    unfold clo
    by_cases h : n = 1
    · rw [if_pos (by simpa using h), if_pos h]
      decide +kernel
    · rw [if_neg (by simpa using h), if_neg h]
      decide +kernel
  rw [e]
  show tl (Str.ofString "(" ++ Str.join (Str.ofString ", ") (PyData.shownAll ds) ++ Str.ofString (if ((PyData.shownAll ds).length == 1) = true then ",)" else ")")) = _
  rw [tl_append, tl_append, tl_join, e1, e2, tl_comma, all_sg, PyData.shownAll_length]
  rfl
/-- the kind of data by its first sign -/
def tag (c : Nat) : Nat := if c = 78 then 0 else if c = 84 then 1 else if c = 70 then 2 else if 48 ≤ c ∧ c ≤ 57 then 3 else if c = 39 then 4 else if c = 91 then 5 else if c = 40 then 6 else 9
def kindOf : PyData → Nat
  | .none => 0 | .bool true => 1 | .bool false => 2 | .int _ => 3 | .str _ => 4 | .list _ => 5 | .tuple _ => 6 | .dict _ => 7
theorem sg_int {i : Int} (h : 0 ≤ i) : sg (.int i) = numL i.toNat := by
  have e : i = ((i.toNat : Nat) : Int) := by omega
  show tl (PyData.shown (.int i)) = _
  rw [PyData.shown_int]
  conv => lhs; rw [e]
  exact tl_num _
theorem first {d : PyData} (h : plainD d = true) : ∃ c t, sg d = c :: t ∧ tag c = kindOf d := by
  cases d with
  | none => exact ⟨78, [111, 110, 101], by show tl (PyData.shown _) = _; rw [PyData.shown_none]; decide +kernel, by decide⟩
  | bool b =>
    cases b with
    | true => exact ⟨84, [114, 117, 101], by show tl (PyData.shown _) = _; rw [PyData.shown_bool]; decide +kernel, by decide⟩
    | false => exact ⟨70, [97, 108, 115, 101], by show tl (PyData.shown _) = _; rw [PyData.shown_bool]; decide +kernel, by decide⟩
  | int i =>
    have h0 : 0 ≤ i := by simpa [plainD] using h
    rw [sg_int h0]
    cases e : numL i.toNat with
    | nil => exact absurd e (numL_ne _)
    | cons c t =>
      refine ⟨c, t, rfl, ?_⟩
      have := numL_digits i.toNat c (by rw [e]; exact List.mem_cons_self ..)
      unfold tag
      rw [if_neg (by omega), if_neg (by omega), if_neg (by omega), if_pos (by omega)]
      rfl
  | str x =>
    refine ⟨39, tl x ++ [39], ?_, rfl⟩
    show tl (PyData.shown _) = _
    rw [PyData.shown_str]
    exact tl_repr (by simpa only [plainD] using h)
  | list ds => exact ⟨91, _, sg_list ds, rfl⟩
  | tuple ds => exact ⟨40, _, sg_tuple ds, rfl⟩
  | dict _ => simp [plainD] at h
theorem same_kind {d d' : PyData} (h : plainD d = true) (h' : plainD d' = true) {r r' : List Nat} (e : sg d ++ r = sg d' ++ r') : kindOf d = kindOf d' := by
  obtain ⟨c, t, a, b⟩ := first h
  obtain ⟨c', t', a', b'⟩ := first h'
  rw [a, a'] at e
  injection e with e1 _
  rw [← b, ← b', e1]
/-- what stands behind data -/
def After (r : List Nat) : Prop := ∀ c t, r = c :: t → ¬ (48 ≤ c ∧ c ≤ 57)
def Fin1 (f : List Nat) : Prop := (∃ t, f = 41 :: t) ∨ (∃ t, f = 93 :: t) ∨ ∃ t, f = 44 :: 41 :: t
theorem Fin1.after {f : List Nat} (h : Fin1 f) : After f := by
  rcases h with ⟨t, rfl⟩ | ⟨t, rfl⟩ | ⟨t, rfl⟩ <;> (intro c u e; injection e with e1 _; omega)
theorem comma_after (t : List Nat) : After (comma ++ t) := by
  intro c u e
  injection e with e1 _
  omega
theorem digits_cut {a b : List Nat} : ∀ {r r' : List Nat}, (∀ c ∈ a, 48 ≤ c ∧ c ≤ 57) → (∀ c ∈ b, 48 ≤ c ∧ c ≤ 57) → After r → After r' → a ++ r = b ++ r' → a = b ∧ r = r' := by
  induction a generalizing b with
  | nil =>
    intro r r' ha hb hr hr' e
    cases b with
    | nil => exact ⟨rfl, e⟩
    | cons x b => exact absurd (hb x (List.mem_cons_self ..)) (hr x _ e)
  | cons y a ih =>
    intro r r' ha hb hr hr' e
    cases b with
    | nil => exact absurd (ha y (List.mem_cons_self ..)) (hr' y _ e.symm)
    | cons x b =>
      injection e with e1 e2
      obtain ⟨h1, h2⟩ := ih (fun c hc => ha c (List.mem_cons_of_mem _ hc)) (fun c hc => hb c (List.mem_cons_of_mem _ hc)) hr hr' e2
      exact ⟨by rw [e1, h1], h2⟩
theorem quote_cut {a b r r' : List Nat} (ha : 39 ∉ a) (hb : 39 ∉ b) (e : a ++ 39 :: r = b ++ 39 :: r') : a = b ∧ r = r' := by
  induction a generalizing b with
  | nil =>
    cases b with
    | nil => exact ⟨rfl, (List.cons.inj e).2⟩
    | cons x b => exact absurd (by rw [← (List.cons.inj e).1]; exact List.mem_cons_self ..) hb
  | cons y a ih =>
    cases b with
    | nil => exact absurd (by rw [(List.cons.inj e).1]; exact List.mem_cons_self ..) ha
    | cons x b =>
      injection e with e1 e2
      obtain ⟨h1, h2⟩ := ih (fun z => ha (List.mem_cons_of_mem _ z)) (fun z => hb (List.mem_cons_of_mem _ z)) e2
      exact ⟨by rw [e1, h1], h2⟩
theorem no39 {x : Str} (h : x.cps.toList.all signOk = true) : 39 ∉ tl x := fun m => absurd (List.all_eq_true.mp h 39 m) (by decide)
theorem clo_fin (n : Nat) (r : List Nat) : Fin1 (clo n ++ r) := by
  unfold clo
  by_cases h : n = 1
  · rw [if_pos h]; exact .inr (.inr ⟨r, rfl⟩)
  · rw [if_neg h]; exact .inl ⟨r, rfl⟩
theorem kind_le : ∀ d : PyData, kindOf d ≤ 7
  | .none => by decide
  | .bool true => by decide
  | .bool false => by decide
  | .int _ => by show 3 ≤ 7; decide
  | .str _ => by show 4 ≤ 7; decide
  | .list _ => by show 5 ≤ 7; decide
  | .tuple _ => by show 6 ≤ 7; decide
  | .dict _ => by show 7 ≤ 7; decide
theorem fin_no {f : List Nat} (h : Fin1 f) {d : PyData} (hd : plainD d = true) {t : List Nat} (e : f = sg d ++ t) : False := by
  obtain ⟨c, u, a, b⟩ := first hd
  rw [a] at e
  have k := kind_le d
  have t1 : tag 41 = 9 := by decide
  have t2 : tag 93 = 9 := by decide
  have t3 : tag 44 = 9 := by decide
  rcases h with ⟨t', rfl⟩ | ⟨t', rfl⟩ | ⟨t', rfl⟩
  all_goals
    injection e with e1 _
    rw [← e1] at b
    omega
mutual
theorem sg_cut : ∀ (d d' : PyData) (r r' : List Nat), plainD d = true → plainD d' = true → After r → After r' → sg d ++ r = sg d' ++ r' → d = d' ∧ r = r'
  | .none, d', r, r', h, h', _, _, e => by
    have k := same_kind h h' e
    cases d' with
    | none => exact ⟨rfl, List.append_cancel_left e⟩
    | bool b => cases b <;> cases k
    | _ => cases k
  | .bool true, d', r, r', h, h', _, _, e => by
    have k := same_kind h h' e
    cases d' with
    | bool b =>
      cases b with
      | true => exact ⟨rfl, List.append_cancel_left e⟩
      | false => cases k
    | _ => cases k
  | .bool false, d', r, r', h, h', _, _, e => by
    have k := same_kind h h' e
    cases d' with
    | bool b =>
      cases b with
      | true => cases k
      | false => exact ⟨rfl, List.append_cancel_left e⟩
    | _ => cases k
  | .int i, d', r, r', h, h', hr, hr', e => by
    have k := same_kind h h' e
    cases d' with
    | int j =>
      have h0 : 0 ≤ i := by simpa [plainD] using h
      have h1 : 0 ≤ j := by simpa [plainD] using h'
      rw [sg_int h0, sg_int h1] at e
      obtain ⟨a, b⟩ := digits_cut (numL_digits _) (numL_digits _) hr hr' e
      have := numL_inj a
      exact ⟨by congr 1; omega, b⟩
    | bool b => cases b <;> cases k
    | _ => cases k
  | .str x, d', r, r', h, h', _, _, e => by
    have k := same_kind h h' e
    cases d' with
    | str y =>
      have h0 : x.cps.toList.all signOk = true := by simpa only [plainD] using h
      have h1 : y.cps.toList.all signOk = true := by simpa only [plainD] using h'
      have e' : tl (reprText x) ++ r = tl (reprText y) ++ r' := by rw [← PyData.shown_str, ← PyData.shown_str]; exact e
      rw [tl_repr h0, tl_repr h1] at e'
      injection e' with _ e2
      rw [List.append_eq, List.append_eq, List.append_assoc, List.append_assoc] at e2
      obtain ⟨a, b⟩ := quote_cut (no39 h0) (no39 h1) e2
      exact ⟨by rw [ext_tl a], b⟩
    | bool b => cases b <;> cases k
    | _ => cases k
  | .list ds, d', r, r', h, h', hr, hr', e => by
    have k := same_kind h h' e
    cases d' with
    | list ds' =>
      have h0 : plainDs ds = true := by simpa only [plainD] using h
      have h1 : plainDs ds' = true := by simpa only [plainD] using h'
      rw [sg_list, sg_list] at e
      injection e with _ e2
      rw [List.append_eq, List.append_eq, List.append_assoc, List.append_assoc] at e2
      obtain ⟨a, b⟩ := sgs_cut ds ds' _ _ h0 h1 (.inr (.inl ⟨r, rfl⟩)) (.inr (.inl ⟨r', rfl⟩)) e2
      exact ⟨by rw [a], (List.cons.inj b).2⟩
    | bool b => cases b <;> cases k
    | _ => cases k
  | .tuple ds, d', r, r', h, h', hr, hr', e => by
    have k := same_kind h h' e
    cases d' with
    | tuple ds' =>
      have h0 : plainDs ds = true := by simpa only [plainD] using h
      have h1 : plainDs ds' = true := by simpa only [plainD] using h'
      rw [sg_tuple, sg_tuple] at e
      injection e with _ e2
      rw [List.append_eq, List.append_eq, List.append_assoc, List.append_assoc] at e2
      obtain ⟨a, b⟩ := sgs_cut ds ds' _ _ h0 h1 (clo_fin _ r) (clo_fin _ r') e2
      subst a
      exact ⟨rfl, List.append_cancel_left b⟩
    | bool b => cases b <;> cases k
    | _ => cases k
  | .dict _, _, _, _, h, _, _, _, _ => by simp [plainD] at h
theorem sgs_cut : ∀ (ds ds' : List PyData) (f f' : List Nat), plainDs ds = true → plainDs ds' = true → Fin1 f → Fin1 f' → joinL comma (ds.map sg) ++ f = joinL comma (ds'.map sg) ++ f' → ds = ds' ∧ f = f'
  | [], [], _, _, _, _, _, _, e => ⟨rfl, e⟩
  | [], [d'], f, f', _, h', hf, _, e => by
    have h1 : plainD d' = true := by simpa [plainDs] using h'
    exact (fin_no hf h1 (t := f') e).elim
  | [], d' :: e' :: ds', f, f', _, h', hf, _, e => by
    have h1 : plainD d' = true ∧ plainD e' = true ∧ plainDs ds' = true := by simpa [plainDs] using h'
    exact (fin_no hf h1.1 (t := comma ++ joinL comma ((e' :: ds').map sg) ++ f') (by
      have : f = sg d' ++ (comma ++ joinL comma ((e' :: ds').map sg)) ++ f' := e
      rw [this, List.append_assoc])).elim
  | [d], [], f, f', h, _, _, hf', e => by
    have h1 : plainD d = true := by simpa [plainDs] using h
    exact (fin_no hf' h1 (t := f) e.symm).elim
  | d :: e' :: ds, [], f, f', h, _, _, hf', e => by
    have h1 : plainD d = true ∧ plainD e' = true ∧ plainDs ds = true := by simpa [plainDs] using h
    exact (fin_no hf' h1.1 (t := comma ++ joinL comma ((e' :: ds).map sg) ++ f) (by
      have : sg d ++ (comma ++ joinL comma ((e' :: ds).map sg)) ++ f = f' := e
      rw [← this, List.append_assoc])).elim
  | [d], [d'], f, f', h, h', hf, hf', e => by
    have h0 : plainD d = true := by simpa [plainDs] using h
    have h1 : plainD d' = true := by simpa [plainDs] using h'
    obtain ⟨a, b⟩ := sg_cut d d' f f' h0 h1 hf.after hf'.after e
    exact ⟨by rw [a], b⟩
  | [d], d' :: e' :: ds', f, f', h, h', hf, hf', e => by
    have h0 : plainD d = true := by simpa [plainDs] using h
    have h1 : plainD d' = true ∧ plainD e' = true ∧ plainDs ds' = true := by simpa [plainDs] using h'
    have e1 : sg d ++ f = sg d' ++ (comma ++ (joinL comma ((e' :: ds').map sg) ++ f')) := by
      have : sg d ++ f = sg d' ++ (comma ++ joinL comma ((e' :: ds').map sg)) ++ f' := e
      rw [this, List.append_assoc, List.append_assoc]
    obtain ⟨_, b⟩ := sg_cut d d' f _ h0 h1.1 hf.after (comma_after _) e1
    rcases hf with ⟨t, rfl⟩ | ⟨t, rfl⟩ | ⟨t, rfl⟩
    · injection b with b1 _; cases b1
    · injection b with b1 _; cases b1
    · injection b with _ b2; injection b2 with b3 _; cases b3
  | d :: e' :: ds, [d'], f, f', h, h', hf, hf', e => by
    have h0 : plainD d = true ∧ plainD e' = true ∧ plainDs ds = true := by simpa [plainDs] using h
    have h1 : plainD d' = true := by simpa [plainDs] using h'
    have e1 : sg d ++ (comma ++ (joinL comma ((e' :: ds).map sg) ++ f)) = sg d' ++ f' := by
      have : sg d ++ (comma ++ joinL comma ((e' :: ds).map sg)) ++ f = sg d' ++ f' := e
      rw [← this, List.append_assoc, List.append_assoc]
    obtain ⟨_, b⟩ := sg_cut d d' _ f' h0.1 h1 (comma_after _) hf'.after e1
    rcases hf' with ⟨t, rfl⟩ | ⟨t, rfl⟩ | ⟨t, rfl⟩
    · injection b with b1 _; cases b1
    · injection b with b1 _; cases b1
    · injection b with _ b2; injection b2 with b3 _; cases b3
  | d :: e1 :: ds, d' :: e2 :: ds', f, f', h, h', hf, hf', e => by
    have h0 : plainD d = true ∧ plainDs (e1 :: ds) = true := by simpa [plainDs] using h
    have h1 : plainD d' = true ∧ plainDs (e2 :: ds') = true := by simpa [plainDs] using h'
    have e3 : sg d ++ (comma ++ (joinL comma ((e1 :: ds).map sg) ++ f)) = sg d' ++ (comma ++ (joinL comma ((e2 :: ds').map sg) ++ f')) := by
      have : sg d ++ (comma ++ joinL comma ((e1 :: ds).map sg)) ++ f = sg d' ++ (comma ++ joinL comma ((e2 :: ds').map sg)) ++ f' := e
      rw [List.append_assoc, List.append_assoc, List.append_assoc, List.append_assoc] at this
      exact this
    obtain ⟨a, b⟩ := sg_cut d d' _ _ h0.1 h1.1 (comma_after _) (comma_after _) e3
    obtain ⟨a2, b2⟩ := sgs_cut (e1 :: ds) (e2 :: ds') f f' h0.2 h1.2 hf hf' (List.append_cancel_left b)
    exact ⟨by rw [a, a2], b2⟩
end
theorem shown_inj {d d' : PyData} (h : plainD d = true) (h' : plainD d' = true) (e : d.shown = d'.shown) : d = d' :=
  (sg_cut d d' [] [] h h' (fun _ _ z => nomatch z) (fun _ _ z => nomatch z) (by rw [List.append_nil, List.append_nil]; exact congrArg tl e)).1
end Mine

set_option Elab.async false
set_option linter.all false
set_option maxRecDepth 100000
set_option maxHeartbeats 4000000
/-! A written tuple as a plain one. -/
namespace Mine
open PySem PySem.Spec PyProof.Rows L2
section
variable {X : Cx} {es : List Expr} {t : L2.TA} {pos : Pos}
def tTupF (t : L2.TA) : L2.TE := fun σ H Q => t σ H fun xs H1 => xs.length ≤ sizeLine ∧ ∀ p o, H1 p = none → o.dict = none → Q (.ref p) (upd H1 p (.frz o (.tup xs)))
theorem pe_tupF {x1} (h : L2.PA X es t) : L2.PE X (.Tuple es x1 pos) (tTupF t) := by
  refine ⟨fun pins s σ H Q I hq => ?_⟩
  refine wpAny_Tuple_spliced (thn (h.run pos pins s σ H _ I hq) fun us s1 ⟨xs, H1, I1, r, z, q⟩ => ⟨by rw [← r.length]; exact z, ?_⟩)
  have hf : H1 s1.heap.objs.size = none := I1.hok.fresh (Nat.le_refl _)
  refine ⟨.ref s1.heap.objs.size, upd H1 s1.heap.objs.size (.frz { cls := .type "tuple", data := .seq us.toArray } (.tup xs)), I1.laid (t' := s1.toks) (fun b u e => Heap.get?_push_of_some _ e) (Nat.le_refl _) ?_, rfl, q _ _ hf rfl⟩
  exact ⟨Heap.get?_push_size _ rfl, z, us, r, ⟨_, Heap.get?_push_size _ rfl, rfl, _, rfl⟩⟩
end
end Mine

set_option Elab.async false
set_option linter.all false
set_option maxRecDepth 100000
set_option maxHeartbeats 4000000
/-! Sets of texts that can be walked: made by a comprehension, sorted. -/
namespace Mine
open PySem PySem.Spec PyProof.Rows L2 PySem.Froz
/-- the set at a has just the texts l, each once -/
def SetS (P : Program) (w : World) (h : Heap) (a : Addr) (l : List Str) : Prop :=
  ∃ D : SD, h.get? a = some (sObj "set" D) ∧ TxOk P w D l ∧ l.Nodup ∧ l.length < scanBound ∧ Ris D.2.2.place.toList ∧ (w.params.followText "set-order" = true ∨ D.2.2.led = true)
section
variable {P : Program} {w : World} {A : Around} {E : Value → Shared → Prop} {s : Shared} {h h' : Heap} {a : Addr} {l : List Str}
theorem SetS.at' (R : SetS P w h a l) (k : ∀ o, h.get? a = some o → h'.get? a = some o) : SetS P w h' a l :=
  let ⟨D, e, r⟩ := R
  ⟨D, k _ e, r⟩
theorem setS_new (w : World) (h : Heap) : SetS P w (h.push { cls := .type "set", dict := none, data := .set #[] 0 (.fresh 0 0 (!w.params.followText "set-order")) }) h.objs.size [] := by
  refine ⟨(#[], 0, .fresh 0 0 (!w.params.followText "set-order")), Heap.get?_push_size _ rfl, TxOk.nil (by rfl), List.nodup_nil, by decide, List.Pairwise.nil, ?_⟩
  show _ ∨ (!w.params.followText "set-order") = true
  cases w.params.followText "set-order"
  · exact .inr rfl
  · exact .inl rfl
theorem tailTx_ris {ep : Nat} {es : Array (Int × Value)} {t : SetTable} {b : Bool} (r : Ris t.place.toList) : Ris (tailTx ep es t b).2.2.place.toList := by
  unfold tailTx
  by_cases c : (!b && t.tooFull) = true
  · rw [if_pos c]
    exact relayAll_ris _ _ _
  · rw [if_neg c]
    exact r
theorem tailTx_led {ep : Nat} {es : Array (Int × Value)} {t : SetTable} {b : Bool} : (tailTx ep es t b).2.2.led = t.led := by
  unfold tailTx
  by_cases c : (!b && t.tooFull) = true
  · rw [if_pos c]
    exact relayAll_led _ _ _
  · rw [if_neg c]
theorem addTx_ris {hs : Int} {v : Value} {D : SD} (r : Ris D.2.2.place.toList) : Ris (addTx hs v D).2.2.place.toList := by
  refine tailTx_ris ?_
  have r1 := layNew_ris D.2.2 D.1 hs v r
  by_cases c : (layNew D.2.2 D.1 hs v).2.1.plain = true
  · rw [if_pos c]
    exact r1
  · rw [if_neg c]
    exact r1
theorem addTx_led {hs : Int} {v : Value} {D : SD} : (addTx hs v D).2.2.led = D.2.2.led := by
  refine tailTx_led.trans ?_
  have r1 := layNew_led D.2.2 D.1 hs v
  by_cases c : (layNew D.2.2 D.1 hs v).2.1.plain = true
  · rw [if_pos c]
    exact r1
  · rw [if_neg c]
    exact r1
/-- one text more -/
def insS (l : List Str) (k : Str) : List Str := if k ∈ l then l else k :: l
theorem mem_insS {l : List Str} {k x : Str} : x ∈ insS l k ↔ x = k ∨ x ∈ l := by
  unfold insS
  by_cases h : k ∈ l
  · rw [if_pos h]
    exact ⟨.inr, fun z => z.elim (fun e => e ▸ h) id⟩
  · rw [if_neg h]
    exact List.mem_cons
theorem insS_len {l : List Str} {k : Str} : (insS l k).length ≤ l.length + 1 := by
  unfold insS
  split <;> simp
theorem addHashed_S {k : Str} {u : PySem.Tok} {Q : Bool → Shared → Prop} (R : SetS P w s.heap a l) (room : l.length + 1 < scanBound)
    (q : ∀ b hp, (∀ c o, c ≠ a → s.heap.get? c = some o → hp.get? c = some o) → SetS P w hp a (insS l k) → Q b { s with heap := hp }) : wpAny (model P w) A (setAddHashed a (.str k u) (hashStr w k)) Q E s := by
  obtain ⟨D, ho, F, nd, lb, ri, le⟩ := R
  by_cases m : k ∈ l
  · obtain ⟨es, ep, t⟩ := D
    have hd : (sObj "set" (es, ep, t)).data = .set es ep t := rfl
    have fit : t.fits es.size = true := F.fit
    have els : ElemsOf (strKind P w) es.toList := F.el
    have small : es.size < scanBound := by
      have z : es.size = l.length := F.sz
      omega
    have key : (strKind P w).is k (.str k u) = true := is_str k u
    have e1 : insS l k = l := if_pos m
    rw [e1] at q
    unfold setAddHashed setAddHashedIn
    refine wpAny_holding (wpAny_bind (wpAny_setState_of ho hd fit ?_))
    dsimp only
    rw [byScan_of rfl small els]
    simp only [↓reduceIte]
    unfold setAddByScan
    refine wpAny_bind ?_
    refine wpAny_bind (wpAny_rule ?_)
    refine wpAny_bind (wpAny_setScan_of (knd := strKind P w) (k := k) key ho hd fit els ?_)
    cases fx : List.findIdx? (fun z => (strKind P w).is k z.2) es.toList with
    | none =>
      obtain ⟨z, hz, hk⟩ := (F.mem k).mp m
      have := List.findIdx?_eq_none_iff.mp fx z hz
      rw [hk] at this
      cases this
    | some j =>
      dsimp only
      exact wpAny_pure (wpAny_pure (q _ s.heap (fun _ _ _ e => e) ⟨(es, ep, t), ho, F, nd, lb, ri, le⟩))
  · refine add_x ho F m room (q true _ (fun c o hc e => (Heap.get?_update_other _ _ (Ne.symm hc)).trans e) ⟨addTx (hashStr w k) (.str k u) D, get_upd _ ho rfl, ?_, ?_, ?_, addTx_ris ri, ?_⟩)
    · unfold insS
      rw [if_neg m]
      exact add_ok u F
    · unfold insS
      rw [if_neg m]
      exact List.nodup_cons.mpr ⟨m, nd⟩
    · unfold insS
      rw [if_neg m]
      exact room
    · rw [addTx_led]
      exact le
theorem call_addS {k : Str} {u : PySem.Tok} {Q : Value → Shared → Prop} (R : SetS P w s.heap a l) (room : l.length + 1 < scanBound)
    (q : ∀ hp tk, (∀ c o, c ≠ a → s.heap.get? c = some o → hp.get? c = some o) → SetS P w hp a (insS l k) → Q .none { s with heap := hp, toks := tk }) : wpAny (model P w) A (call (.builtin "set.add") [.ref a, .str k u]) Q E s := by
  obtain ⟨D, ho, r⟩ := id R
  refine wpAny_call_entry PySem.F.slot_set_add ⟨_, ho, rfl⟩ PySem.F.entry_set_add ?_ (PySem.F.args_set_add_2 _ _)
  unfold Builtin.«set.add» Builtin.Frozenset.oneOther
  simp only [List.isEmpty_nil, bind_assoc]
  unfold Builtin.Frozenset.addrOf setAdd
  refine wpAny_bind (wpAny_pure ?_)
  try dsimp only
  refine wpAny_bind (wpAny_pure ?_)
  try dsimp only
  refine wpAny_bind (wpAny_holding (wpAny_bind ((strKind P w).pyHash (is_str k u) ?_)))
  refine addHashed_S (s := { s with toks := s.toks + 1 }) R room fun b hp keep R' => ?_
  show wpAny _ _ (ret Value.none) _ _ _
  exact wpAny_pure ⟨_, rfl, q hp _ keep R'⟩
end
/-- .. as a tracked thing -/
def SetSO (P : Program) (w : World) (a : Addr) (l : List Str) : HO := .ext fun h => SetS P w h a l
theorem setSO_ok {P : Program} {w : World} {H : Hp} {h : Heap} {a : Addr} {l : List Str} (R : SetS P w h a l) : ObjOk P w H h a (SetSO P w a l) := by
  obtain ⟨D, ho, _⟩ := id R
  exact ⟨R, ⟨_, ho⟩, fun h1 h2 z k => SetS.at' z k⟩
section
variable {X : Cx}
theorem setSO_at {pins : List (Addr × Obj)} {σ : L2.St} {H : Hp} {s : Shared} {a : Addr} {l : List Str} (I : L2.Inv X pins σ H s) (e : H a = some (SetSO X.prog X.w a l)) : SetS X.prog X.w s.heap a l := (I.hok a _ e).1
/-- a text put into a tracked set -/
theorem addSO {pins : List (Addr × Obj)} {σ : L2.St} {H : Hp} {s : Shared} {E : Value → Shared → Prop} {a : Addr} {l : List Str} {k : Str} {u : PySem.Tok} {Q : Value → Shared → Prop} (I : L2.Inv X pins σ H s) (e : H a = some (SetSO X.prog X.w a l)) (room : l.length + 1 < scanBound)
    (q : ∀ s', L2.Inv X pins σ (upd H a (SetSO X.prog X.w a (insS l k))) s' → Q .none s') : wpAny (model X.prog X.w) X.A (call (.builtin "set.add") [.ref a, .str k u]) Q E s := by
  refine call_addS (setSO_at I e) room fun hp tk keep R' => q _ ?_
  obtain ⟨D, ho, _⟩ := id R'
  exact I.write (e := a) (t' := tk) (by rw [e]; trivial) (.inl rfl) (fun c o hc hu => keep c o hc hu) ⟨_, ho⟩ (setSO_ok R')
/-- {elt for target in iter if ..}, texts: D is the new set -/
def tScS (P : Program) (w : World) (wi : TI) (g : TG) (tt : TT) (te : L2.TE) (vs : List Nat) : L2.TE := fun σ H Q => wi σ H fun J H1 => ∀ D, H1 D = none → ∃ W : Nat → Nat → Hp → Prop, (∃ m, W 0 m (upd H1 D (SetSO P w D []))) ∧ ∀ i m H, W i m H →
  (J.stop i H ∧ Q (.ref D) H) ∨ (J.go i H ∧ ∃ N : Hp → Prop, (∀ H', N H' → ∃ m', m' < m ∧ W (i + 1) m' H') ∧ ∀ x H', J.yld i H x H' → g x (wipe σ vs) H' fun σ2 H2 => wipe σ2 vs = wipe σ vs ∧ tt σ2 H2 fun b H3 =>
    if b = true then te σ2 H3 fun y H4 => ∃ (k : Str) (l : List Str), y = .str k ∧ H4 D = some (SetSO P w D l) ∧ l.length + 1 < scanBound ∧ N (upd H4 D (SetSO P w D (insS l k))) else N H3)
theorem pe_scS {elt tg iter : Expr} {ifs : List Expr} {scope : Scope} {own : List (PySem.Str × Nat)} {pos : Pos} {wi : TI} {g : TG} {tt : TT} {te : L2.TE} (hc : X.calm = true) (hN : X.N.Nodup) (hi : PI X tg iter wi) (ok : BlkOk X.N X.env.scope scope own)
    (hg : ∀ (s : Shared) (H : Hp) (C : Addr) (cl : List (PySem.Str × Addr)) (fp : List Addr), PG (X.blk s H scope (compEnvC scope cl C X.env) fp) tg g) (ht : ∀ (s : Shared) (H : Hp) (C : Addr) (cl : List (PySem.Str × Addr)) (fp : List Addr), PTs (X.blk s H scope (compEnvC scope cl C X.env) fp) ifs tt)
    (he : ∀ (s : Shared) (H : Hp) (C : Addr) (cl : List (PySem.Str × Addr)) (fp : List Addr), L2.PE (X.blk s H scope (compEnvC scope cl C X.env) fp) elt te) (hs : ∀ x, foldedSetIterable iter X.env x = pure x := by intro _; rfl) :
    L2.PE X (.SetComp elt [⟨tg, iter, ifs, 0⟩] scope pos) (tScS X.prog X.w wi g tt te (own.map (·.2))) := by
  refine ⟨fun pins s σ H Q I h => ?_⟩
  rw [PpSet.eval_SetComp]
  have fr : ∀ y ∈ scope.names, y.2 = .free → ∃ c, X.env.cells.lookup y.1 = some c := fun y hy e => (ok.free y hy e).elim (fun z => I.ok.has _ (.inl z)) fun z => I.ok.has _ (.inr z)
  refine wpAny_comprehension_free (use := none) rfl hs (closure_ok fr) ok.kind (fun y hy e => by rw [ok.uniq y hy, e]) (thn (hi.run pins s σ H _ I h) fun xv sa hx => thn hx fun iv sb hb => ?_)
  obtain ⟨it, fp, tn, J, Hb, e0, Ib, T, stb, fb, q⟩ := hb
  subst e0
  refine PpSet.newSet_ok (newEnv_comp ?_)
  generalize hD : sb.heap.objs.size = D
  have nD : Hb D = none := Ib.hok.fresh (Nat.le_of_eq hD)
  obtain ⟨W, ⟨m0, wz⟩, turn⟩ := q D nD
  generalize hsc : ({ sb with heap := sb.heap.push { cls := .type "set", dict := none, data := .set #[] 0 (.fresh 0 0 (!X.w.params.followText "set-order")) } } : Shared) = sc
  have hpc : sc.heap = sb.heap.push { cls := .type "set", dict := none, data := .set #[] 0 (.fresh 0 0 (!X.w.params.followText "set-order")) } := by rw [← hsc]
  have Ic : L2.Inv X pins σ (upd Hb D (SetSO X.prog X.w D [])) sc := by
    rw [← hsc]
    refine Ib.laid (t' := sb.toks) (fun b o e => Heap.get?_push_of_some _ e) (Nat.le_of_eq hD) ?_
    rw [← hD]
    exact setSO_ok (setS_new X.w sb.heap)
  have low : ∀ b ∈ fp, b < sb.heap.objs.size := fun b hb => let ⟨o, e, _⟩ := T.obj _ _ stb b hb; Heap.lt_size e
  have fc : ∀ b ∈ fp, FpOk X pins (upd Hb D (SetSO X.prog X.w D [])) b ∧ b < sc.heap.objs.size := fun b hb => by
    have lt := low b hb
    refine ⟨⟨?_, (fb b hb).2⟩, by rw [hpc, Heap.size_push]; exact Nat.lt_succ_of_lt lt⟩
    rw [upd_ne (by rw [← hD]; exact Nat.ne_of_lt lt)]
    exact (fb b hb).1
  have stc : tn 0 sc.heap := T.keep _ _ _ stb fun b _ o e => by rw [hpc]; exact Heap.get?_push_of_some _ e
  have Id := block_start Ic ok hN fc
  have rg := hg sc (upd Hb D (SetSO X.prog X.w D [])) sc.heap.objs.size (cellsFrom (sc.heap.objs.size + 1) scope.names (cloFrom X.env.cells scope.names [])) fp
  have rt := ht sc (upd Hb D (SetSO X.prog X.w D [])) sc.heap.objs.size (cellsFrom (sc.heap.objs.size + 1) scope.names (cloFrom X.env.cells scope.names [])) fp
  have re := he sc (upd Hb D (SetSO X.prog X.w D [])) sc.heap.objs.size (cellsFrom (sc.heap.objs.size + 1) scope.names (cloFrom X.env.cells scope.names [])) fp
  show codeAny _ _ (.compStart (.SetComp elt [⟨tg, iter, ifs, 0⟩] scope pos) 0 (.ref it) (.ref D) (compEnvC scope (cellsFrom (sc.heap.objs.size + 1) scope.names (cloFrom X.env.cells scope.names [])) sc.heap.objs.size X.env)) (compPost (model X.prog X.w) X.A X.xe none _ (.ref D) sc.heap.objs.size) { sc with heap := pushCells (sc.heap.push { cls := .type "dict", data := .dict #[] }) scope.names }
  have zfp : ∀ b ∈ fp, (upd Hb D (SetSO X.prog X.w D [])) b = none := fun b hb => (fc b hb).1.1
  generalize hce : compEnvC scope (cellsFrom (sc.heap.objs.size + 1) scope.names (cloFrom X.env.cells scope.names [])) sc.heap.objs.size X.env = ce at Id rg rt re ⊢
  have locs : ce.locals = sc.heap.objs.size := by subst hce; rfl
  generalize hHc : upd Hb D (SetSO X.prog X.w D []) = Hc at Ic Id rg rt re wz zfp fc
  generalize hsd : ({ sc with heap := pushCells (sc.heap.push { cls := .type "dict", data := .dict #[] }) scope.names } : Shared) = sd at Id ⊢
  have std : tn 0 sd.heap := T.keep _ _ _ stc fun b _ o e => by rw [← hsd]; exact pushCells_keeps _ _ _ _ (Heap.get?_push_of_some _ e)
  have okfp : ∀ {σ' : L2.St} {H' : Hp} {s' : Shared}, L2.Inv (X.blk sc Hc scope ce fp) [] σ' H' s' → (∀ b ∈ fp, H' b = none) → ∀ b ∈ fp, FpOk (X.blk sc Hc scope ce fp) [] H' b := fun {σ' H' s'} I' z b hb =>
    ⟨z b hb, (I'.ok.exf b hb).1, I'.ok.exfs b hb, .inl hb, fun x c e => (I'.ok.exf b hb).2 x c e, fun p hp => (List.not_mem_nil hp).elim⟩
  have loop : codeAny (model X.prog X.w) X.A (.compLoop (.SetComp elt [⟨tg, iter, ifs, 0⟩] scope pos) 0 (.ref it) (.ref D) ce) (compPost (model X.prog X.w) X.A X.xe none (L2.EP X pins σ Q) (.ref D) sc.heap.objs.size) sd := by
    refine PpSet.compLoopS_any (fun n s' => ∃ i H', L2.Inv (X.blk sc Hc scope ce fp) [] (wipe σ (own.map (·.2))) H' s' ∧ tn i s'.heap ∧ (∀ b ∈ fp, H' b = none) ∧ W i n H') ?_ m0 ⟨0, Hc, Id, std, zfp, wz⟩
    rintro n s1 ⟨i, H1, I1, st1, z1, w1⟩
    rcases turn i n H1 w1 with ⟨over, fin⟩ | ⟨go, N, hN', step⟩
    · refine thnF (T.done (X.blk sc Hc scope ce fp) rfl rfl rfl hc i [] s1 _ H1 (fun _ _ => False) I1 (okfp I1 z1) st1 over) fun r s2 ⟨hr, I2⟩ => ?_
      subst hr
      have I3 : L2.Inv X pins σ H1 s2 := Ic.call' (ch := fp) I2.os I2.base I2.hok I2.bare fun b hb => ⟨(fc b hb).1.2.2.2.1, (fc b hb).1.2.1, (fc b hb).1.2.2.2.2.1, (fc b hb).1.2.2.2.2.2⟩
      have nl : H1 sc.heap.objs.size = none := locs ▸ (show H1 ce.locals = none from I2.free)
      obtain ⟨m, ns, _⟩ := I2.loc
      have ns : s2.heap.Ns ce.locals m := ns
      rw [locs] at ns
      obtain ⟨f0, f1, f2, f3, f4, f5⟩ := Ic.fpOk (Nat.le_refl _) nl
      exact ⟨m, ns, fun h2 sb2 => ⟨.ref D, H1, I3.turned (t' := s2.toks) (fun b o hb e => (sb2.2 b hb).trans e) f0 f1 f3 f4 f5, rfl, fin⟩⟩
    · refine thnF (T.item (X.blk sc Hc scope ce fp) rfl rfl rfl hc i [] s1 _ H1 (fun _ _ => False) I1 (okfp I1 z1) st1 go) fun r s2 ⟨u, hr, hu⟩ => ?_
      subst hr
      refine thnF hu fun _ s3 ⟨x, H3, I3, r3, y3, st3, z3⟩ => ?_
      refine thnF (rg.run _ s3 _ H3 x u _ (I3.pinned (okfp I3 z3) (T.obj _ _ st3)) r3 (step x H3 y3)) fun _ s4 ⟨σ4, H4, I4, wp4, q4⟩ => ?_
      refine thnF (rt.run _ s4 σ4 H4 _ I4 q4) fun b s5 ⟨H5, I5, q5⟩ => ?_
      have back : ∀ {s' : Shared} {H' : Hp}, L2.Inv (X.blk sc Hc scope ce fp) ([] ++ pinsAt fp s3.heap) σ4 H' s' → N H' → ∃ m, m < n ∧ ∃ i H', L2.Inv (X.blk sc Hc scope ce fp) [] (wipe σ (own.map (·.2))) H' s' ∧ tn i s'.heap ∧ (∀ b ∈ fp, H' b = none) ∧ W i m H' := fun {s' H'} I' z => by
        obtain ⟨m', lt, w'⟩ := hN' H' z
        have same : ∀ b ∈ fp, ∀ o, s3.heap.get? b = some o → s'.heap.get? b = some o ∧ H' b = none := fun b hb o e =>
          ⟨(I'.pin (b, o) (List.mem_append_right _ (List.mem_append_right _ (mem_pinsAt hb e)))).1, (I'.pin (b, o) (List.mem_append_right _ (List.mem_append_right _ (mem_pinsAt hb e)))).2.1⟩
        refine ⟨m', lt, i + 1, H', (I'.unpinned (pins := [])).weak (by rw [← wp4, wipe_length]) (fun j v e => ?_), T.keep _ _ _ st3 fun b hb o e => (same b hb o e).1, fun b hb => ?_, w'⟩
        · rw [← wp4] at e
          exact (wipe_some e).1
        · obtain ⟨o, e, _⟩ := T.obj _ _ st3 b hb
          exact (same b hb o e).2
      cases b with
      | false =>
        simp only [Bool.false_eq_true, if_false] at q5 ⊢
        exact back I5 q5
      | true =>
        simp only [if_true] at q5 ⊢
        refine thnF (re.run _ s5 σ4 H5 _ I5 q5) fun z s6 ⟨y, H6, I6, r6, k, l, ey, e6, room, nx⟩ => ?_
        subst ey
        obtain ⟨t6, rfl⟩ := r6
        exact addSO (X := X.blk sc Hc scope ce fp) I6 e6 room fun s7 I7 => back I7 nx
  exact PpSet.codeAny_compStart_set loop (T.self X.A 0 _ _ _ std loop)
end
end Mine

set_option Elab.async false
set_option linter.all false
set_option maxRecDepth 100000
set_option maxHeartbeats 4000000
/-! A set of texts sorted; a comprehension over a list. -/
namespace Mine
open PySem PySem.Spec PyProof.Rows L2 PySem.Froz
theorem perm_of_sub {α : Type} [DecidableEq α] : ∀ {l m : List α}, l.Nodup → (∀ x ∈ l, x ∈ m) → m.length ≤ l.length → l.Perm m
  | [], m, _, _, h => by
    have : m = [] := List.length_eq_zero_iff.mp (Nat.le_zero.mp h)
    rw [this]
  | x :: l, m, nd, sub, h => by
    obtain ⟨hx, nd'⟩ := List.nodup_cons.mp nd
    have xm := sub x (List.mem_cons_self ..)
    have p := List.perm_cons_erase xm
    refine List.Perm.trans (List.Perm.cons x (perm_of_sub nd' (fun y hy => ?_) ?_)) p.symm
    · have : y ∈ x :: m.erase x := p.mem_iff.mp (sub y (List.mem_cons_of_mem _ hy))
      rcases List.mem_cons.mp this with rfl | z
      · exact absurd hy hx
      · exact z
    · have := p.length_eq
      rw [List.length_cons] at this h
      omega
theorem strs_of : ∀ (vs : List Value), (∀ v ∈ vs, ∃ k t, v = Value.str k t) → ∃ ss, StrsAre vs ss ∧ ∀ k, k ∈ ss ↔ ∃ t, Value.str k t ∈ vs
  | [], _ => ⟨[], .nil, fun k => by simp⟩
  | v :: vs, h => by
    obtain ⟨k, t, rfl⟩ := h _ (List.mem_cons_self ..)
    obtain ⟨ss, a, b⟩ := strs_of vs fun x hx => h x (List.mem_cons_of_mem _ hx)
    refine ⟨k :: ss, .cons k t a, fun j => ?_⟩
    rw [List.mem_cons, b j]
    constructor
    · rintro (rfl | ⟨u, hu⟩)
      · exact ⟨t, List.mem_cons_self ..⟩
      · exact ⟨u, List.mem_cons_of_mem _ hu⟩
    · rintro ⟨u, hu⟩
      rcases List.mem_cons.mp hu with e | hu
      · injection e with e1 _
        exact .inl e1
      · exact .inr ⟨u, hu⟩
theorem strsAre_len : ∀ {vs : List Value} {ss : List Str}, StrsAre vs ss → vs.length = ss.length
  | _, _, .nil => rfl
  | _, _, .cons _ _ r => by rw [List.length_cons, List.length_cons, strsAre_len r]
section
variable {P : Program} {w : World} {A : Around} {E : Value → Shared → Prop} {s : Shared} {a : Addr} {l : List Str}
theorem sorted_S {Q : Value → Shared → Prop} (R : SetS P w s.heap a l) (hh : A.handled = none)
    (q : ∀ s' p (out : Array Value) (c : Nat) (ys : List Str), (∀ b o, s.heap.get? b = some o → s'.heap.get? b = some o) → s'.gens = s.gens → s'.os = s.os → s.heap.objs.size ≤ p → s'.heap.get? p = some (seqObj "list" out c) → StrsAre out.toList ys → ys.Perm l → sortedS ys = true → Q (.ref p) s') :
    wpAny (model P w) A (call (.builtin "sorted") [.ref a]) Q E s := by
  obtain ⟨⟨es, ep, t⟩, ho, F, nd, lb, ri, le⟩ := R
  have fit : t.fits es.size = true := F.fit
  have sz : es.size = l.length := F.sz
  refine Calls.call_function_entry kind_sorted plain_sorted entry_sorted (args_sorted1 _) ?_
  unfold Builtin.«sorted»
  refine wpAny_bind (m := checkCount "sorted" 1 1 _) (wpAny_pure ?_)
  refine wpAny_bind (collect_set (A := A.in1) hh ⟨_, ho, rfl, rfl⟩ fit (by rw [sz]; exact lb) ri le fun s1 vs keep big gen1 os1 pm => ?_)
  have len : vs.length = l.length := by rw [pm.length_eq, List.length_map, Array.length_toList]; exact sz
  have shape : ∀ v ∈ vs, ∃ k u, v = Value.str k u := fun v hv => by
    obtain ⟨e, he, rfl⟩ := List.mem_map.mp (pm.mem_iff.mp hv)
    obtain ⟨⟨k, hk, _⟩, _⟩ := F.el e he
    obtain ⟨u, hu⟩ := Value.isStrOf_shape (x := k) (v := e.2) hk
    exact ⟨k, u, hu⟩
  obtain ⟨ss, are, mem⟩ := strs_of vs shape
  have pl : ss.Perm l := by
    refine (perm_of_sub nd (fun x hx => ?_) (by rw [← strsAre_len are, len]; exact Nat.le_refl _)).symm
    obtain ⟨e, he, hk⟩ := (F.mem x).mp hx
    obtain ⟨u, hu⟩ := Value.isStrOf_shape (x := x) (v := e.2) hk
    exact (mem x).mpr ⟨u, pm.mem_iff.mpr (List.mem_map.mpr ⟨e, he, hu⟩)⟩
  have line : vs.length ≤ sizeLine := by
    rw [len]
    have : scanBound ≤ sizeLine := by decide
    omega
  refine wpAny_bind (wpAny_newList ?_ line)
  have new : (s1.heap.push (seqObj "list" vs.toArray 0)).get? s1.heap.objs.size = some (seqObj "list" vs.toArray 0) := Heap.get?_push_size _ rfl
  refine wpAny_bind (wpAny_holding (wpAny_call_entry slot_list_sort ⟨_, new, rfl⟩ entry_list_sort (list_sort_treeKAny strKind_oneLt new are.keysOf (fun x y r e => keyKind_strs (by rw [← e]; exact are)) line fun st pa sa => ⟨_, rfl, ?_⟩) (args_list_sort _)))
  obtain ⟨ys, ya, yp, ysrt⟩ := sorted_out_str are pa sa
  obtain ⟨c, hc⟩ := sortedHeap_at (vs := vs) (out := (arrOf st).map (·.2)) new
  refine wpAny_pure ⟨_, rfl, q _ s1.heap.objs.size _ c ys (fun b u e => ?_) gen1 os1 big hc ya (yp.trans pl) ysrt⟩
  have e1 := keep b u e
  have lt := Heap.lt_size e1
  show (sortedHeap (s1.heap.push (seqObj "list" vs.toArray 0)) s1.heap.objs.size vs _).get? b = some u
  rw [sortedHeap_old (Nat.ne_of_lt lt) (by rw [Heap.size_push]; exact Nat.lt_succ_of_lt lt)]
  exact Heap.get?_push_of_some _ e1
end
section
variable {X : Cx}
/-- sorted(s), s a set of texts -/
def rSortS (P : Program) (w : World) : List V → Hp → VK → Prop := fun vs H Q => ∃ (a : Addr) (l : List Str), vs = [.ref a] ∧ H a = some (SetSO P w a l) ∧ l.length ≤ sizeLine ∧
  ∀ (ys : List Str) (p : Addr), ys.Perm l → l.Nodup → sortedS ys = true → H p = none → Q (.ref p) (upd H p (.lst (ys.map V.str)))
theorem cr_sortS (hc : X.calm = true) : CallR X (.builtin "sorted") (rSortS X.prog X.w) := by
  intro pins s σ H vs us Q I r h
  obtain ⟨a, l, rfl, ha, line, q⟩ := h
  have R := setSO_at I ha
  rw [Vals.ref1 r]
  obtain ⟨_, _, _, nd, _⟩ := id R
  refine sorted_S R (I.ok.hd hc) fun s' p out c ys keep gen os big hp hy py sy => ?_
  have ln : (ys.map V.str).length ≤ sizeLine := by rw [List.length_map, py.length_eq]; exact line
  have np : H p = none := I.hok.fresh big
  have J : L2.Inv X pins σ (upd H p (.lst (ys.map V.str))) { s with heap := s'.heap, gens := s'.gens, drawn := s'.drawn, toks := s'.toks } :=
    I.call (ch := []) (Un.laid keep big np) (I.hok.laid keep big ⟨ln, out.toList, c, vals_of_strs hy, hp⟩) (by rw [gen]; exact I.bare) (fun _ z => nomatch z)
  have e : s' = { s with heap := s'.heap, gens := s'.gens, drawn := s'.drawn, toks := s'.toks } := by
    cases s'; cases s; cases os; rfl
  rw [e]
  exact ⟨.ref p, _, J, rfl, q ys p py nd sy np⟩
end
/-- a set's comprehension over a list that the block leaves as it is -/
theorem scS_list {P : Program} {w : World} {K : PySem.W.Frag} {a : Addr} {xs : List V} {g : TG} {tt : TT} {te : L2.TE} {vs : List Nat} {σ : L2.St} {H1 : Hp} {D : Addr} {Qd : Hp → Prop} (Pv : Nat → Hp → Prop) (h0 : Pv 0 (upd H1 D (SetSO P w D [])))
    (hl : ∀ i H, i ≤ xs.length → Pv i H → SqL K H a xs)
    (turn : ∀ i x H, xs[i]? = some x → Pv i H → g x (wipe σ vs) H fun σ2 H2 => wipe σ2 vs = wipe σ vs ∧ tt σ2 H2 fun b H3 =>
      if b = true then te σ2 H3 fun y H4 => ∃ (k : Str) (l : List Str), y = .str k ∧ H4 D = some (SetSO P w D l) ∧ l.length + 1 < scanBound ∧ Pv (i + 1) (upd H4 D (SetSO P w D (insS l k))) else Pv (i + 1) H3)
    (fin : ∀ H, Pv xs.length H → Qd H) :
    ∃ W : Nat → Nat → Hp → Prop, (∃ m, W 0 m (upd H1 D (SetSO P w D []))) ∧ ∀ i m H, W i m H → ((Itl K a).stop i H ∧ Qd H) ∨ ((Itl K a).go i H ∧ ∃ N : Hp → Prop, (∀ H', N H' → ∃ m', m' < m ∧ W (i + 1) m' H') ∧
      ∀ x H', (Itl K a).yld i H x H' → g x (wipe σ vs) H' fun σ2 H2 => wipe σ2 vs = wipe σ vs ∧ tt σ2 H2 fun b H3 =>
        if b = true then te σ2 H3 fun y H4 => ∃ (k : Str) (l : List Str), y = .str k ∧ H4 D = some (SetSO P w D l) ∧ l.length + 1 < scanBound ∧ N (upd H4 D (SetSO P w D (insS l k))) else N H3) := by
  refine ⟨fun i m H => m + i = xs.length ∧ Pv i H, ⟨xs.length, by omega, h0⟩, fun i m H ⟨em, p⟩ => ?_⟩
  have st := hl i H (by omega) p
  cases m with
  | zero =>
    have e : i = xs.length := by omega
    subst e
    exact .inl ⟨⟨xs, st, Nat.le_refl _⟩, fin H p⟩
  | succ m =>
    have lt : i < xs.length := by omega
    refine .inr ⟨⟨xs, xs[i], st, by simp [lt]⟩, Pv (i + 1), fun H' p' => ⟨m, Nat.lt_succ_self _, by omega, p'⟩, ?_⟩
    rintro x H' ⟨rfl, y⟩
    exact turn i x _ (y xs st) p
end Mine

set_option Elab.async false
set_option linter.all false
set_option maxRecDepth 100000
set_option maxHeartbeats 4000000
/-! t[lo:hi] as a plain tuple; xs.extend(t) of a plain tuple. -/
namespace Mine
open PySem PySem.Spec PyProof.Rows L2
/-- an object that is a tuple and no more -/
def PlainO (o : Obj) : Prop := o.dict = none ∧ o.slots = #[]
def rSlF (K : PySem.W.Frag) : V → Option Int → Option Int → Hp → VK → Prop := fun x lo hi H Q => ∃ a xs, x = .ref a ∧ SqT K H a xs ∧ ¬ (HT.sIx xs.length 0 lo = 0 ∧ HT.sIx xs.length xs.length hi = xs.length) ∧
  ∀ p o, H p = none → PlainO o → Q (.ref p) (upd H p (.frz o (.tup (cutV xs lo hi))))
section
variable {X : Cx}
theorem sl_tupF : SlR X (rSlF X.K) := by
  intro pins s σ H x v vl vu lo hi sl Q I rx hs pl pu h
  obtain ⟨a, xs, rfl, hx, part, q⟩ := h
  cases rx
  obtain ⟨its, r, ht, hz⟩ := I.tuple hx
  have len : its.toArray.size = xs.length := by rw [List.size_toArray]; exact r.length.symm
  refine ⟨"tuple", _, PyProof.Rows.slot_tuple_getitem.lookup, ht.typeIs, HT.getItem_tuple_cut ht hs pl pu (by rw [len]; exact part) ?_ (by rw [len]; exact hz)⟩
  rw [len]
  have cut := (r.drop (HT.sIx xs.length 0 lo)).take (HT.sIx xs.length xs.length hi - HT.sIx xs.length 0 lo)
  refine ⟨.ref s.heap.objs.size, _, I.laid (t' := s.toks) (fun b ob e => Heap.get?_push_of_some _ e) (Nat.le_refl _) (show ObjOk X.prog X.w _ _ _ (.frz _ (.tup (cutV xs lo hi))) from ⟨Heap.get?_push_size _ rfl, Nat.le_trans (cutV_length xs lo hi) hz, _, cut, IsTup.new _ _⟩), rfl, q _ _ (I.hok.fresh (Nat.le_refl _)) ⟨rfl, rfl⟩⟩
def rExtF : V → List V → Hp → VK → Prop := fun x vs H Q => ∃ l b o xs zs, x = .ref l ∧ vs = [.ref b] ∧ H l = some (.lst xs) ∧ H b = some (.frz o (.tup zs)) ∧ PlainO o ∧ xs.length + zs.length ≤ sizeLine ∧ Q .non (upd H l (.lst (xs ++ zs)))
theorem mt_extendF : MtM X "list.extend" rExtF := by
  intro pins s σ H x vs v us Q I rx rv h
  obtain ⟨l, b, o, xs, zs, rfl, rfl, hl, hb, ⟨od, os⟩, hz, q⟩ := h
  cases rx
  obtain ⟨u, rfl, ru⟩ := rv.one
  cases ru
  obtain ⟨z, its, n, r, _, e⟩ := I.lstM hl
  obtain ⟨g, _, its2, r2, o', g', oc, n2, odat⟩ := (show ObjOk X.prog X.w H s.heap _ (.frz o (.tup zs)) from I.hok _ _ hb)
  rw [g] at g'
  cases g'
  have eo : o = { cls := .type "tuple", dict := none, data := .seq its2.toArray n2, slots := #[] } := by
    obtain ⟨c, d, da, sl⟩ := o
    simp only at od os oc odat
    rw [od, os, oc, odat]
  rw [eo] at g
  have l1 := r.length
  have l2 := r2.length
  have sum : its.toArray.size + its2.toArray.size ≤ sizeLine := by
    rw [List.size_toArray, List.size_toArray]
    omega
  have short : ¬ (!its.toArray.isEmpty && Builtin.List.listTooLong (its.toArray.size + its2.toArray.size)) = true := by
    rw [notLongL sum, Bool.and_false]
    exact Bool.false_ne_true
  refine call_meets PySem.F.slot_list_extend ⟨_, e, rfl⟩ PySem.F.entry_list_extend (PySem.F.args_list_extend_2 _ _) (AutoSeq1.list_extend_list_tuple_0 l its.toArray n b its2.toArray n2 short (by omega) (by omega)) ⟨e, g, ?_⟩
  exact ⟨.non, _, I.lset (its' := its ++ its2) hl e (by simp) (r.append r2) (by rw [List.length_append]; exact hz), rfl, q⟩
end
end Mine

set_option Elab.async false
set_option linter.all false
set_option maxRecDepth 100000
set_option maxHeartbeats 4000000
/-! dict(zip(xs, ys)) of two lists. -/
namespace Mine
open PySem PySem.Spec PyProof.Rows L2
theorem zip_kv : ∀ {ks : List Key} {ys : List V} {us ws : List Value}, Vals (ks.map kV) us → Vals ys ws → KV (ks.zip ys) (ks.zip ws)
  | [], _, _, _, _, _ => .nil
  | k :: ks, [], _, _, _, r => by
    cases r
    exact .nil
  | k :: ks, y :: ys, _, _, r, r' => by
    cases r with
    | cons _ r =>
      cases r' with
      | cons h r' => exact .cons ⟨rfl, h⟩ (zip_kv r r')
section
variable {X : Cx} {e e2 : Expr} {ta : L2.TA} {p p2 pos pos2 : Pos}
def tDictZip (K : PySem.W.Frag) (ta : L2.TA) : L2.TE := fun σ H Q => ta σ H fun vs H1 => ∃ (a b : Addr) (ks : List Key) (ys : List V), vs = [.ref a, .ref b] ∧ SqL K H1 a (ks.map kV) ∧ SqL K H1 b ys ∧ ks.length = ys.length ∧
  ∀ q, H1 q = none → Q (.ref q) (upd H1 q (.dK (mergeK [] (ks.zip ys))))
theorem pe_dictZip (hc : X.calm = true) (hg : Gl X "dict") (hm : X.mg "dict" = none) (hg2 : Gl X "zip") (hm2 : X.mg "zip" = none) (ha : L2.PA X [e, e2] ta)
    (hs : starEach [e, e2] X.env = (false, eval e X.env) :: starEach [e2] X.env := by rfl) (hpl : (backTo pos2 (starEach [e2] X.env)).any (·.1) = false := by rfl)
    (na : starEach [Expr.Call (.Name "zip" p2) [e, e2] [] pos2] X.env = (false, eval (Expr.Call (.Name "zip" p2) [e, e2] [] pos2) X.env) :: starEach [] X.env := by rfl) :
    L2.PE X (.Call (.Name "dict" p) [.Call (.Name "zip" p2) [e, e2] [] pos2] [] pos) (tDictZip X.K ta) := by
  refine ⟨fun pins s σ H Q I h => ?_⟩
  refine Call_ (ld_blt I hg hm PyProof.Rows.boot_dict (PyProof.Rows.callWith_type1 (args_cons ?_ na) na))
  refine Call_ (ld_blt I hg2 hm2 PyProof.Rows.boot_zip (PyProof.Rows.callWith_type1 (thn (ha.run pos2 pins s σ H _ I h) fun us s1 ⟨vs, H1, I1, r1, a, b, ks, ys, ex, hx, hy, len, q⟩ => ?_) hs hpl))
  subst ex
  obtain ⟨u1, u2, rfl, ra, rb⟩ := vals2 r1
  cases ra
  cases rb
  obtain ⟨its, rv, pa, za⟩ := I1.list hx
  obtain ⟨its2, rv2, pb, _⟩ := I1.list hy
  refine call_zip_2 pa.isList pb.isList fun h' hz hTI hTO h1 h2 hsz keep => args_nil ?_
  have I2 : L2.Inv X pins σ H1 { s1 with heap := h' } := I1.kept (t' := s1.toks) keep
  have l1 := rv.length
  have l2 := rv2.length
  rw [List.length_map] at l1
  have ok : PairsHave (mixKind X.prog X.w) (min its.toArray.size its2.toArray.size) (fun i k v => its.toArray[i]? = some k ∧ its2.toArray[i]? = some v) (ks.zip its2) := by
    refine ⟨?_, fun i key v ⟨e1, e2⟩ => ?_⟩
    · rw [List.length_zip, List.size_toArray, List.size_toArray, l1]
    · rw [List.getElem?_toArray] at e1 e2
      obtain ⟨k, hk⟩ : ∃ k, ks[i]? = some k := by
        have : i < ks.length := by
          rw [l1]
          exact (List.getElem?_eq_some_iff.mp e1).1
        exact ⟨ks[i], List.getElem?_eq_getElem this⟩
      refine ⟨k, by rw [List.getElem?_zip_eq_some]; exact ⟨hk, e2⟩, ?_⟩
      have : RelV (kV k) key := by
        have hk' : (ks.map kV)[i]? = some (kV k) := by rw [List.getElem?_map, hk]; rfl
        obtain ⟨u, hu, ru⟩ := rv.get hk'
        rw [e1] at hu
        cases hu
        exact ru
      exact kV_is this
  have line : min its.toArray.size its2.toArray.size ≤ sizeLine := by
    rw [List.size_toArray, ← l1]
    rw [List.length_map] at za
    omega
  refine PySem.call_dict_pairs (PairArg.zip _ _ _ _ _ a b (PySem.W.ktu_apart s1.heap.objs.size a b pa.lt pb.lt) its.toArray its2.toArray) (I1.ok.hd hc) ⟨hz, hTI, ⟨_, _, hTO⟩, h1, h2, ?_, ?_⟩ ok line fun h2 tk hd keep2 => ?_
  · exact pa.isList.at fun o e => keep _ o e
  · exact pb.isList.at fun o e => keep _ o e
  have hm' : (h'.objs.size == sysModules) = false := beq_eq_false_iff_ne.mpr (Nat.ne_of_gt I2.big)
  have kl : (mergeK [] (ks.zip ys)).length ≤ sizeLine := by
    refine Nat.le_trans (length_mergeK _ []) ?_
    rw [List.length_nil, Nat.zero_add, List.length_zip]
    rw [List.length_map] at za
    omega
  have nH : H1 h'.objs.size = none := I2.hok.fresh (Nat.le_refl _)
  have low : s1.heap.objs.size ≤ h'.objs.size := by omega
  refine ⟨.ref h'.objs.size, upd H1 h'.objs.size (.dK (mergeK [] (ks.zip ys))), I1.laid (t' := tk) (fun c o e => ?_) low (show ObjOk X.prog X.w _ _ _ (.dK (mergeK [] (ks.zip ys))) from ⟨kl, hm', merged [] _, KV.merge (zip_kv rv rv2) .nil, hd⟩), rfl, q _ nH⟩
  have lt := Heap.lt_size e
  refine keep2 c o (fun z => ?_) (keep c o e)
  simp only [List.mem_cons, List.not_mem_nil, or_false] at z
  rcases z with rfl | rfl | rfl | rfl
  · exact Nat.not_lt.mpr (Nat.le_add_right _ _) lt
  · exact Nat.not_lt.mpr (Nat.le_add_right _ _) lt
  · exact Nat.lt_irrefl _ lt
  · exact Nat.not_lt.mpr (Nat.le_add_right _ _) lt
end
end Mine

set_option Elab.async false
set_option linter.all false
set_option maxRecDepth 100000
set_option maxHeartbeats 4000000
/-! sorted(d) of a dict with any number of keys, all texts. -/
namespace Mine
open PySem PySem.Spec PyProof.Rows L2
section
variable {X : Cx}
theorem call_sortedDA (hc : X.calm = true) : CallR X (.builtin "sorted") (fun xs H Q => ∃ (a : Addr) (kvs : List (Key × V)) (ks : List Str), xs = [.ref a] ∧ Rd H a (.dK kvs) ∧ kvs.map (·.1) = ks.map Sum.inr ∧
    ∀ ys p, ys.Perm ks → sortedS ys = true → H p = none → Q (.ref p) (upd H p (.lst (ys.map V.str)))) := by
  intro pins s σ H xs us Q I r q
  obtain ⟨a, kvs, ks, rfl, hd, keys, q⟩ := q
  obtain ⟨u, rfl, rx⟩ := vals1 r
  cases rx
  obtain ⟨sz, low, vs, rel, dd⟩ := dk_rd I.hok hd
  obtain ⟨ep, at_⟩ := dd.dictAt
  have vk : vs.map (·.1) = ks.map Sum.inr := rel.keys.symm.trans keys
  have vl : vs.length = ks.length := by simpa using congrArg List.length vk
  have line : vs.length ≤ sizeLine := by
    have := rel.length
    omega
  refine Calls.call_function_entry PyProof.Rows.kind_sorted PyProof.Rows.plain_sorted PyProof.Rows.entry_sorted (PyProof.Rows.args_sorted1 _) ?_
  unfold Builtin.«sorted»
  refine wpAny_bind (m := checkCount "sorted" 1 1 _) (wpAny_pure ?_)
  refine wpAny_bind (PySem.W.kdu_collect (A := X.A.in1) (PySem.W.kdl_dict (knd := mixKind X.prog X.w) (kvs := vs) (ep := ep) low) (I.ok.hd hc) at_ line fun h1 t1 acc keep told => ?_)
  have al : acc.toList.length = ks.length := by rw [Array.length_toList, told.1, vl]
  have are : StrsAre acc.toList ks := strs_at al fun j v e => by
    obtain ⟨k, x, e1, e2⟩ := told.2 j v (by rw [← Array.getElem?_toList]; exact e)
    have e3 : (ks.map (Sum.inr : Str → Key))[j]? = some k := by rw [← vk, List.getElem?_map, e1]; rfl
    rw [List.getElem?_map] at e3
    obtain ⟨y, hy, rfl⟩ := Option.map_eq_some_iff.mp e3
    obtain ⟨t, ev⟩ := Value.isStrOf_shape (x := y) (v := v) e2
    exact ⟨y, t, hy, ev⟩
  have I1 : L2.Inv X pins σ H { s with heap := h1, toks := t1 } := I.kept keep
  have al2 : acc.toList.length ≤ sizeLine := by omega
  refine wpAny_bind (wpAny_newList ?_ al2)
  have new : (h1.push (seqObj "list" acc.toList.toArray 0)).get? h1.objs.size = some (seqObj "list" acc.toList.toArray 0) := Heap.get?_push_size _ rfl
  show wpAny _ _ _ _ _ { s with heap := h1.push (seqObj "list" acc.toList.toArray 0), toks := t1 }
  refine wpAny_bind (wpAny_holding (wpAny_call_entry PyProof.Rows.slot_list_sort ⟨_, new, rfl⟩ PyProof.Rows.entry_list_sort
    (list_sort_treeKAny strKind_oneLt (s := { s with heap := h1.push (seqObj "list" acc.toList.toArray 0), toks := t1 }) new are.keysOf (fun x y z e => keyKind_strs (by rw [← e]; exact are)) al2 fun st pa sa => ⟨_, rfl, ?_⟩) (PyProof.Rows.args_list_sort _)))
  obtain ⟨ys, ya, yp, ysrt⟩ := sorted_out_str are pa sa
  obtain ⟨c, hcc⟩ := PyProof.Rows.sortedHeap_at (vs := acc.toList) (out := (arrOf st).map (·.2)) new
  have yl : (ys.map V.str).length ≤ sizeLine := by
    rw [List.length_map, yp.length_eq]
    omega
  refine wpAny_pure ⟨_, rfl, .ref h1.objs.size, upd H h1.objs.size (.lst (ys.map V.str)), I1.laid (t' := t1) (fun b u e => ?_) (Nat.le_refl _)
    (show ObjOk X.prog X.w _ _ _ (.lst (ys.map V.str)) from ⟨yl, ((arrOf st).map (·.2)).toList, c, vals_of_strs ya, by rw [Array.toArray_toList]; exact hcc⟩), rfl, q ys _ yp ysrt (I1.hok.fresh (Nat.le_refl _))⟩
  have lt : b < h1.objs.size := Heap.lt_size e
  rw [PyProof.Rows.sortedHeap_old (Nat.ne_of_lt lt) (by rw [Heap.size_push]; exact Nat.lt_succ_of_lt lt)]
  exact Heap.get?_push_of_some _ e
end
end Mine

set_option Elab.async false
set_option linter.all false
set_option maxRecDepth 100000
set_option maxHeartbeats 4000000
/-! set(xs), xs a list of texts: a set that can be walked. -/
namespace Mine
open PySem PySem.Spec PyProof.Rows L2 PySem.Froz
/-- a set just made -/
abbrev bareS (w : World) : Obj := { cls := .type "set", dict := none, data := .set #[] 0 (.fresh 0 0 (!w.params.followText "set-order")) }
theorem bareS_at {P : Program} {w : World} {hp : Heap} {a : Addr} (e : hp.get? a = some (bareS w)) : SetS P w hp a [] := by
  refine ⟨(#[], 0, .fresh 0 0 (!w.params.followText "set-order")), e, TxOk.nil (by rfl), List.nodup_nil, by decide, List.Pairwise.nil, ?_⟩
  show _ ∨ (!w.params.followText "set-order") = true
  cases w.params.followText "set-order"
  · exact .inr rfl
  · exact .inl rfl
/-- the set at a has just the texts of l -/
def HasS (P : Program) (w : World) (hp : Heap) (a : Addr) (l : List Str) : Prop := ∃ ks, SetS P w hp a ks ∧ (∀ x, x ∈ ks ↔ x ∈ l) ∧ ks.length ≤ l.length
section
variable {P : Program} {w : World} {A : Around} {E : Value → Shared → Prop} {s : Shared}
theorem fillS {J : Addr} {fp wr : List Addr} {Gn : Array GenState → Array GenState → Prop} {n : Nat} {Pv : Nat → Value → Prop} {Sv : Nat → Shared → Prop} {R : Result → Shared → Prop} (W : WalksS P w A.in1 J fp wr Gn n Pv Sv) (a : Addr) (out : a ∉ fp) (l : List Str) (len : n = l.length)
    (room : l.length + 1 < scanBound) (val : ∀ i v, Pv i v → ∃ k t, l[i]? = some k ∧ v = .str k t) : ∀ (left i : Nat) (s : Shared), n = i + left → Sv i s → HasS P w s.heap a (l.take i) →
      (∀ s', Moved (a :: wr) Gn s s' → HasS P w s'.heap a l → R (.ok (.ret .none)) s') → codeAny (model P w) A (.builtin "set.update.loop" ⟨[.ref a, .ref J], []⟩) R s := by
  have outw : a ∉ wr := fun z => out (W.sub _ z)
  have more : ∀ b ∈ wr, b ∈ a :: wr := fun b z => List.mem_cons_of_mem _ z
  intro left
  induction left with
  | zero =>
    intro i s e sv ⟨ks, st, mem, kl⟩ q
    refine codeAny_builtin F.entry_set_update_loop ?_
    rw [Around.under_plainId F.plain_set_update_loop _]
    refine wpAny_bind (W.done s _ _ (by rwa [show n = i by omega]) fun s' mv => ?_)
    rw [List.take_of_length_le (by omega)] at mem kl
    exact wpAny_pure (q s' (mv.mono more) ⟨ks, st.at' fun o z => mv.heap a o outw z, mem, kl⟩)
  | succ left ih =>
    intro i s e sv ⟨ks, st, mem, kl⟩ q
    refine codeAny_builtin F.entry_set_update_loop ?_
    rw [Around.under_plainId F.plain_set_update_loop _]
    refine wpAny_bind (W.item i s _ _ (by omega) sv fun v s' pv sv' mv => ?_)
    obtain ⟨k, t, hk, rfl⟩ := val i v pv
    have tk : l.take (i + 1) = l.take i ++ [k] := by rw [List.take_add_one, hk]; rfl
    have kl' : ks.length ≤ i := by
      rw [List.length_take] at kl
      omega
    refine wpAny_bind (wpAny_holding ?_)
    unfold setAdd
    refine wpAny_holding (wpAny_bind ((strKind P w).pyHash (is_str k t) ?_))
    refine addHashed_S (s := { s' with toks := s'.toks + 1 }) (st.at' fun o z => mv.heap a o outw z) (by omega) fun _ hp keep st2 => ?_
    refine wpAny_pure ⟨plainId_quiet F.plain_set_update_loop _, ih (i + 1) _ (by omega) (W.frame _ s' _ _ sv' (Nat.le_succ _) fun b hb o z => keep b o (fun y => out (y ▸ hb)) z) ⟨insS ks k, st2, fun x => ?_, ?_⟩ fun s2 mv2 h2 => q s2 (Moved.trans W.gtrans ((mv.mono more).then_heap (Nat.le_succ _) fun b o nb z => keep b o (fun y => nb (y ▸ List.mem_cons_self ..)) z) mv2) h2⟩
    · rw [mem_insS, mem, tk, List.mem_append, List.mem_singleton]
      exact or_comm
    · have := insS_len (l := ks) (k := k)
      rw [List.length_take]
      have : i < l.length := by omega
      omega
set_option maxHeartbeats 8000000 in
theorem call_setS {b : Addr} {its : Array Value} {l : List Str} {Q : Value → Shared → Prop} (hh : A.handled = none) (at_ : s.heap.IsList b its) (are : StrsAre its.toList l) (room : l.length + 1 < scanBound)
    (q : ∀ (hp : Heap) (tk : Nat), HasS P w hp s.heap.objs.size l → (∀ c o, s.heap.get? c = some o → hp.get? c = some o) → Q (.ref s.heap.objs.size) { s with heap := hp, toks := tk }) : wpAny (model P w) A (call (.type "set") [.ref b]) Q E s := by
  have num : its.size = l.length := by
    rw [← Array.length_toList]
    exact strsAre_len are
  have ⟨cc, rest, mro⟩ := F.called_set.mro
  have made := F.called_set.made
  have sub := F.called_set.sub
  refine wpAny_call (codeAny_of_tree (wpAny_pure ⟨Code.quiet_builtin _ (by decide +kernel), codeAny_builtin F.entry_type_call ?_⟩))
  rw [Around.under_plain (weight_type_call_type "set" [.ref b] []) rfl]
  have nt := F.called_set.notType
  have cr := F.called_set.canCreate
  have tc := F.typeCall_set_1 (.ref b)
  repeat (any_goals (first | assumption | wp_step))
  refine codeAny_mono (L2.code_set_led1 (.ref b) (E := E) (Q₁ := fun v s1 => v = .ref s.heap.objs.size ∧ s1 = { s with heap := s.heap.push (bareS w) }) ⟨rfl, rfl⟩) fun r s1 h1 => ?_
  cases r with
  | error e => exact h1
  | ok f1 =>
    cases f1 with
    | ret v =>
      obtain ⟨rfl, rfl⟩ := h1
      have new : (s.heap.push (bareS w)).get? s.heap.objs.size = some (bareS w) := Heap.get?_push_size _ rfl
      have ty : Shared.TypeIs { s with heap := s.heap.push (bareS w) } (.ref s.heap.objs.size) "set" := ⟨_, new, rfl⟩
      have li := F.called_set.init.lookup
      have bi := F.called_set.init.bind (.ref s.heap.objs.size)
      repeat (any_goals (first | assumption | wp_step))
      refine codeAny_mono (codeAny_call_builtin (R := wants (fun v s2 => v = .none ∧ ∃ hp tk, s2 = { s with heap := hp, toks := tk } ∧ HasS P w hp s.heap.objs.size l ∧ (∀ c o, s.heap.get? c = some o → hp.get? c = some o)) E) F.called_set.init.plain F.entry_set_init (check_set_init_1 ty ?_)) fun r2 s2 h2 => ?_
      · obtain ⟨⟨oc, od, oa, os⟩, he, hc, m, hd⟩ := at_
        simp only at hc hd
        subst hc hd
        have he1 : (s.heap.push (bareS w)).get? b = some { cls := .type "list", dict := od, data := .seq its m, slots := os } := Heap.get?_push_of_some _ he
        have sl1 := F.sub_list_set
        have sl2 := F.sub_list_frozenset
        have nd : (Value.type "list" == Value.type "dict") = false := by decide
        have il : (s.heap.push (bareS w)).IsList b its := ⟨_, he1, rfl, m, rfl⟩
        unfold Builtin.«set.__init__» noKeywords Builtin.Frozenset.updateFrom
        generalize hI : pyIter = I0
        wp_walk
        subst hI
        refine wpAny_pyIter_list il (wpAny_bind (wpAny_runValue ?_))
        have lt := Heap.lt_size he
        have sz : (s.heap.push (bareS w)).objs.size = s.heap.objs.size + 1 := Heap.size_push ..
        refine fillS ((Walks.list (by simp [hh]) _ b (Nat.ne_of_lt (by rw [Heap.size_push]; exact Nat.lt_succ_of_lt lt)) its).toS) s.heap.objs.size (fun z => ?_) l num room (fun i v hv => ?_) its.size 0 _ (by omega) ⟨⟨_, Heap.get?_push_size _ rfl, rfl, rfl⟩, il.push _⟩ ⟨[], bareS_at (Heap.get?_push_of_some _ new), fun x => by simp, Nat.zero_le _⟩ fun s2 mv h2 => ?_
        · rw [Heap.size_push] at z
          simp only [List.mem_cons, List.not_mem_nil, or_false] at z
          rcases z with z | z
          · exact absurd z (Nat.ne_of_lt (Nat.lt_succ_self _))
          · exact absurd z (Nat.ne_of_gt lt)
        · have hi : i < l.length := by
            rw [← num]
            exact (Array.getElem?_eq_some_iff.mp hv).1
          obtain ⟨t, e⟩ := SS.strs_at are i v (by rw [Array.getElem?_toList]; exact hv)
          exact ⟨l[i], t, List.getElem?_eq_getElem hi, by rw [e, List.getD_eq_getElem?_getD, List.getElem?_eq_getElem hi] <;> rfl⟩
        · obtain ⟨hp2, g2, d2, t2, o2⟩ := s2
          have eg : g2 = s.gens := mv.gens
          have ed : d2 = s.drawn := mv.drawn
          have eo : o2 = s.os := mv.os
          subst eg ed eo
          refine wpAny_pure (wpAny_pure ⟨rfl, hp2, t2, rfl, h2, fun c o e => ?_⟩)
          have ltc := Heap.lt_size e
          refine mv.heap c o (fun z => ?_) (Heap.get?_push_of_some _ (Heap.get?_push_of_some _ e))
          rw [Heap.size_push] at z
          simp only [List.mem_cons, List.not_mem_nil, or_false] at z
          rcases z with z | z
          · exact absurd z (Nat.ne_of_lt ltc)
          · exact absurd z (Nat.ne_of_lt (Nat.lt_succ_of_lt ltc))
      · cases r2 with
        | error e => exact h2
        | ok f2 =>
          cases f2 with
          | ret v =>
            obtain ⟨rfl, hp, tk, rfl, has, keep⟩ := h2
            repeat (any_goals (first | assumption | wp_step))
            exact q _ _ has keep
          | _ => exact h2.elim
    | _ => exact h1.elim
end
section
variable {X : Cx}
/-- set(xs), xs a list of texts -/
def rSetL (P : Program) (w : World) (K : PySem.W.Frag) : List V → Hp → VK → Prop := fun vs H Q => ∃ (b : Addr) (l : List Str), vs = [.ref b] ∧ SqL K H b (l.map V.str) ∧ l.length + 1 < scanBound ∧
  ∀ (p : Addr) (ks : List Str), H p = none → (∀ x, x ∈ ks ↔ x ∈ l) → ks.length ≤ l.length → Q (.ref p) (upd H p (SetSO P w p ks))
theorem cr_setL (hc : X.calm = true) : CallR X (.type "set") (rSetL X.prog X.w X.K) := by
  intro pins s σ H vs us Q I r h
  obtain ⟨b, l, rfl, hb, room, q⟩ := h
  obtain ⟨u, rfl, rv⟩ := vals1 r
  cases (show u = Value.ref b from rv)
  obtain ⟨its, rs, pl, hz⟩ := I.list hb
  refine call_setS (P := X.prog) (w := X.w) (I.ok.hd hc) pl.isList (l := l) (by simpa using L2.strsAre_of rs) room fun hp tk ⟨ks, st, mem, kl⟩ keep => ?_
  exact ⟨.ref _, _, I.laid (t' := tk) keep (Nat.le_refl _) (setSO_ok st), rfl, q _ ks (I.hok.fresh (Nat.le_refl _)) mem kl⟩
end
end Mine

set_option Elab.async false
set_option linter.all false
set_option maxRecDepth 100000
set_option maxHeartbeats 4000000
/-! A def called by keywords alone; repr of deeper data. -/
namespace Mine
open PySem PySem.Spec PyProof.Rows L2
section
variable {X : Cx} {k : Nat} {f : Addr} {fd : FuncData} {ps ks : List Str} {sp : L2.Sp} {x : Str} {p pos : Pos} {kws : List Keyword} {tk : TA} {g : List Value → List Value} {gV : List V → List V}
def tKw (sp : L2.Sp) (gV : List V → List V) (tk : TA) : TE := fun σ H Q => tk σ H fun zs H1 => sp (gV zs) H1 Q E0
/-- f(k1 = .., k2 = ..) -/
theorem pe_kw (F : FnOk X.prog X.w X.K X.mg X.base CX0 k f fd ps sp) (hr : Room k X.A) (hg : Gl X x) (hm : X.mg x = some (.ref f)) (hk : PySem.W.keepIn X.K (.ref f) = true) (hb : ∀ (s : Shared) (ws : List Value), ws.length = ks.length → BindsTo s fd ⟨[], ks.zip ws⟩ (ps.zip (g ws)))
    (hv : ∀ zs ws, Vals zs ws → Vals (gV zs) (g ws)) (hl : ∀ zs, (gV zs).length = ps.length → zs.length = ks.length) (hkw : PK X kws tk) (hall : (backToKw pos (keywordEach kws X.env)).all (·.1.isSome) = true := by rfl) (hks : (backToKw pos (keywordEach kws X.env)).filterMap (·.1) = ks := by rfl)
    (hdb : (x == ("__debug__" : Str)) = false := by decide) (hpl : ((backTo pos (starEach [] X.env)).any (·.1) || (backToKw pos (keywordEach kws X.env)).any (·.1.isNone)) = false := by rfl) :
    PE X (.Call (.Name x p) [] kws pos) (tKw sp gV tk) := by
  refine ⟨fun pins s σ H Q I h => ?_⟩
  refine wpAny_Call_Name_kw (ld_glob I hg hm ?_ hdb)
  refine PySem.W.callWith_KW0 (first := []) (h₀ := X.base) I.ok.mod.kin hk hall ?_ hpl
  refine thn (hkw.run pos pins s σ H _ I h) fun ws s1 ⟨zs, H1, I1, rz, q⟩ => ⟨I1.kIn, ?_⟩
  rw [hks]
  have r2 := hv zs ws rz
  have l2 : ws.length = ks.length := rz.length.symm.trans (hl zs (F.len _ _ _ _ q))
  show wpAny _ _ (call (.ref f) [] (ks.zip ws)) _ _ _
  refine wpAny_call (codeAny_mono (F.run X.A X.stack s1 H1 ⟨[], ks.zip ws⟩ (g ws) (gV zs) Q E0 hr I1.env0 (hb s1 ws l2) r2 q) fun r s' hq => ?_)
  cases r with
  | error e => exact pass0 pins σ H1 s1 e s' I1 hq
  | ok fl =>
    cases fl with
    | ret u => exact I1.after hq
    | next => exact False.elim hq
    | brk => exact False.elim hq
    | cont => exact False.elim hq
end
/-- repr of a list or a tuple of any depth -/
def rReprQ (m : Nat) (K : PySem.W.Frag) : List V → Hp → VK → Prop := fun xs H Q => ∃ (a : Addr) (vs : List V) (ds : List PyData), xs = [.ref a] ∧ DpAll K H vs ds ∧
  ((SqL K H a vs ∧ Shows sizeLine m (.list ds) ∧ Q (.str (PyData.shown (.list ds))) H) ∨ (SqT K H a vs ∧ Shows sizeLine m (.tuple ds) ∧ Q (.str (PyData.shown (.tuple ds))) H))
theorem call_reprQ {X : Cx} {m : Nat} (hg : X.A.guards = some []) (hu : X.A.units + m + 20 < cLine) : CallR X (.builtin "repr") (rReprQ m X.K) := by
  intro pins s σ H xs us Q I r h
  obtain ⟨a, vs, ds, rfl, r', h⟩ := h
  obtain ⟨u, rfl, rv⟩ := vals1 r
  cases (show u = Value.ref a from rv)
  rcases h with ⟨e, S, q⟩ | ⟨e, S, q⟩
  · obtain ⟨its, rvs, ⟨o, n, he, hc, hdn, hd⟩, _⟩ := I.list e
    have hz' : (listText (PyData.shownAll ds)).length ≤ sizeLine := by simpa only [PyData.shown] using S.len
    have rks := dps_rks I ds _ its r' rvs (by simpa [PyData.showable] using S.ok) fun t ht => Nat.le_trans (listText_mem_le ht) hz'
    obtain ⟨⟨as, ra⟩, bs, mm, k⟩ := rks
    have rd : Reads s.heap (.ref a) (.list ds) (a :: as) := .list he hc hd ra
    have out : a ∉ bs := not_mem_of_deeper rd (by simp only [PyData.depth]; omega) mm
    have dep : PyData.depthAll ds + 1 ≤ m := by simpa only [PyData.depth] using S.dep
    have fin : ∀ h' u tk, (∀ b o, s.heap.get? b = some o → h'.get? b = some o) → L2.EP X pins σ Q (.str (PyData.shown (.list ds)) u) { s with heap := h', toks := tk } := fun h' u tk kp => ⟨.str _, H, I.kept kp, ⟨_, rfl⟩, q⟩
    refine call_repr_slot (by omega) ⟨_, he, hc⟩ PySem.F.slot_list_repr.toG ?_
    cases its with
    | nil =>
      cases ra
      refine call_list_repr_empty ⟨_, he, hc⟩ he hd ⟨_, _, rfl, ?_⟩
      have e0 : PyData.shown (.list []) = ("[]" : Str) := by simp only [PyData.shown, PyData.shownAll, listText_nil]
      rw [← e0]
      exact fin _ _ _ fun _ _ z => z
    | cons x l =>
      refine call_list_reprK he hc hd out (by simpa using k.length_eq) (fun i y e => k.item i y (by simpa using e)) (A := X.A.in1) hg (fun b _ => Clear.nil b) (by show X.A.units + 1 + _ < _; omega) (fun _ _ z => z) (fun h' u tk kp => ⟨_, _, rfl, ?_⟩) hz'
      have e0 : PyData.shown (.list ds) = listText (PyData.shownAll ds) := by simp only [PyData.shown]
      rw [← e0]
      exact fin h' u tk kp
  · obtain ⟨its, rvs, ⟨o, he, hc, n, hd⟩, _⟩ := I.tuple e
    have hz' : (tupleText (PyData.shownAll ds)).length ≤ sizeLine := by simpa only [PyData.shown] using S.len
    have rks := dps_rks I ds _ its r' rvs (by simpa [PyData.showable] using S.ok) fun t ht => Nat.le_trans (tupleText_mem_le ht) hz'
    obtain ⟨⟨as, ra⟩, bs, mm, k⟩ := rks
    have rd : Reads s.heap (.ref a) (.tuple ds) as := .tuple he hc hd ra
    have out : a ∉ bs := not_mem_of_deeper rd (by simp only [PyData.depth]; omega) mm
    have dep : PyData.depthAll ds + 1 ≤ m := by simpa only [PyData.depth] using S.dep
    have fin : ∀ h' u tk, (∀ b o, s.heap.get? b = some o → h'.get? b = some o) → L2.EP X pins σ Q (.str (PyData.shown (.tuple ds)) u) { s with heap := h', toks := tk } := fun h' u tk kp => ⟨.str _, H, I.kept kp, ⟨_, rfl⟩, q⟩
    refine call_repr_slot (by omega) ⟨_, he, hc⟩ PySem.F.slot_tuple_repr ?_
    refine call_tuple_reprK he hc hd out (by simpa using k) (A := X.A.in1) hg (fun b _ => Clear.nil b) (by show X.A.units + 1 + _ < _; omega) (fun _ _ z => z) (fun h' u tk kp => ⟨_, _, rfl, ?_⟩) hz'
    have e0 : PyData.shown (.tuple ds) = tupleText (PyData.shownAll ds) := by simp only [PyData.shown]
    rw [← e0]
    exact fin h' u tk kp
end Mine

set_option Elab.async false
set_option linter.all false
set_option maxRecDepth 100000
set_option maxHeartbeats 4000000
/-! sum(xs, start) of a list of lists. -/
namespace Mine
open PySem PySem.Spec PyProof.Rows L2
theorem args_sumL (a b : Value) : argsOk "sum" ⟨[a, b], []⟩ := by unfold argsOk; kernel_rfl
section
variable {P : Program} {w : World} {A : Around} {E : Value → Shared → Prop} {s : Shared}
theorem add_any {a b : Addr} {xs ys : Array Value} {Q : Value → Shared → Prop} (ha : s.heap.IsList a xs) (hb : s.heap.IsList b ys) (sz : xs.size + ys.size ≤ sizeLine)
    (q : Q (.ref s.heap.objs.size) { s with heap := s.heap.push { cls := .type "list", data := .seq (xs ++ ys) } }) : wpAny (model P w) A (binaryOp .Add (.ref a) (.ref b)) Q E s := by
  obtain ⟨⟨c1, d1, t1, l1⟩, h1, k1, n1, e1⟩ := ha
  obtain ⟨⟨c2, d2, t2, l2⟩, h2, k2, n2, e2⟩ := hb
  simp only at k1 e1 k2 e2
  subst k1 e1 k2 e2
  exact concat_meets ⟨_, h1, rfl⟩ ⟨_, h2, rfl⟩ noFill_list_add seq_list_add PySem.F.slot_list_add PySem.F.entry_list_add (PySem.F.args_list_add_2 _ _) (list_addW a b xs ys n1 n2 d1 d2 l1 l2 sz) ⟨h1, h2, q⟩
theorem sum_loopL {J : Addr} {fp wr : List Addr} {n : Nat} {Pv : Nat → Value → Prop} {Sv : Nat → Heap → Prop} {R : Result → Shared → Prop} (W : Walks P w A.in1 J fp wr n Pv Sv) (ad : Nat → Addr) (arr acc : Nat → Array Value) (val : ∀ i v, Pv i v → v = .ref (ad i))
    (ac : ∀ i, i < n → acc (i + 1) = acc i ++ arr i) (fit : ∀ i, i < n → (acc i).size + (arr i).size ≤ sizeLine) (S : Addr) (out : S ∉ fp) (exi : ∀ i h, Sv i h → ∀ b ∈ wr, b < h.objs.size) :
    ∀ (left i : Nat) (s : Shared) (tot : Addr) (c : Nat), n = i + left → Sv i s.heap → s.heap.get? S = some { cls := .type "list", dict := none, data := .seq #[.ref tot] c, slots := #[] } → s.heap.IsList tot (acc i) → tot ∉ wr → tot ≠ S → (∀ j, j < n → s.heap.IsList (ad j) (arr j) ∧ ad j ∉ wr ∧ ad j ≠ S) →
      (∀ h' tk r, (∀ b o, b ∉ wr → b ≠ S → s.heap.get? b = some o → h'.get? b = some o) → (left = 0 → r = tot) → (0 < left → S < r ∧ h'.get? r = some { cls := .type "list", data := .seq (acc n) }) → R (.ok (.ret (.ref r))) { s with heap := h', toks := tk }) →
      codeAny (model P w) A (.builtin "sum.loop" ⟨[.ref J, .ref S, rawInt 2, rawInt 0], []⟩) R s := by
  have outw : S ∉ wr := fun h => out (W.sub _ h)
  intro left
  induction left with
  | zero =>
    intro i s tot c e sv hS ht _ _ _ q
    have hin : i = n := by omega
    subst hin
    refine codeAny_builtin PySem.F.entry_sum_loop ?_
    rw [Around.under_plainId PySem.F.plain_sum_loop _]
    show wpAny _ A.in1 (seqItems? (.ref S) >>= _) _ _ s
    refine wpAny_bind (wpAny_seqItems hS rfl ?_)
    show wpAny _ A.in1 (Sem.tryCatch (pyNext (.ref J)) _ >>= _) _ _ s
    refine wpAny_bind (wpAny_tryCatch (W.done s _ _ sv fun h' tk hk => ?_))
    exact wpAny_pure (q h' tk tot (fun b o hb _ z => hk b o hb z) (fun _ => rfl) (fun z => absurd z (Nat.lt_irrefl _)))
  | succ left ih =>
    intro i s tot c e sv hS ht nt nS its q
    refine codeAny_builtin PySem.F.entry_sum_loop ?_
    rw [Around.under_plainId PySem.F.plain_sum_loop _]
    show wpAny _ A.in1 (seqItems? (.ref S) >>= _) _ _ s
    refine wpAny_bind (wpAny_seqItems hS rfl ?_)
    show wpAny _ A.in1 (Sem.tryCatch (pyNext (.ref J)) _ >>= _) _ _ s
    refine wpAny_bind (wpAny_tryCatch (W.item i s _ _ (by omega) sv fun v h1 tk pv sv1 k1 => ?_))
    have := val i v pv
    subst this
    have hS1 := k1 S _ outw hS
    have keepL : ∀ {b : Addr} {xs : Array Value}, b ∉ wr → s.heap.IsList b xs → h1.IsList b xs := fun hb ⟨o, z, r⟩ => ⟨o, k1 _ _ hb z, r⟩
    obtain ⟨li, nw, nSi⟩ := its i (by omega)
    show wpAny _ A.in1 ((holding [Value.ref (ad i)] (binaryOp .Add (.ref tot) (.ref (ad i)))).attempt >>= _) _ _ _
    refine wpAny_bind (wpAny_attempt (wpAny_holding (add_any (keepL nt ht) (keepL nw li) (fit i (by omega)) ?_)))
    show wpAny _ A.in1 (updateSeq S (fun _ => #[.ref h1.objs.size]) >>= _) _ _ _
    have hS2 := Heap.get?_push_of_some { cls := .type "list", data := .seq (acc i ++ arr i) } hS1
    have lS := Heap.lt_size hS1
    refine wpAny_bind ?_
    refine wpAny_updateSeq hS2 rfl ?_
    have hS3 := Heap.get?_update_self (Obj.mapSeq fun _ => #[Value.ref h1.objs.size]) hS2 rfl
    refine wpAny_bind (wpAny_letGo ?_)
    refine wpAny_bind ?_
    have other : ∀ {b : Addr} {o : Obj}, b ≠ S → h1.get? b = some o → ((((h1.push { cls := .type "list", data := .seq (acc i ++ arr i) }).update S (Obj.mapSeq fun _ => #[Value.ref h1.objs.size])).update S (Obj.mapSeq fun _ => #[Value.ref h1.objs.size])).get? b = some o) := fun hb z =>
      (Heap.get?_update_other _ _ (Ne.symm hb)).trans ((Heap.get?_update_other _ _ (Ne.symm hb)).trans (Heap.get?_push_of_some _ z))
    have nr : h1.objs.size ∉ wr := fun z => Nat.lt_irrefl _ (exi _ _ sv1 _ z)
    have nrS : h1.objs.size ≠ S := Nat.ne_of_gt lS
    have new : ((((h1.push { cls := .type "list", data := .seq (acc i ++ arr i) }).update S (Obj.mapSeq fun _ => #[Value.ref h1.objs.size])).update S (Obj.mapSeq fun _ => #[Value.ref h1.objs.size])).get? h1.objs.size = some { cls := .type "list", data := .seq (acc (i + 1)) }) := by
      rw [ac i (by omega)]
      exact (Heap.get?_update_other _ _ (Ne.symm nrS)).trans ((Heap.get?_update_other _ _ (Ne.symm nrS)).trans (Heap.get?_push_size _ rfl))
    refine wpAny_updateSeq hS3 rfl (wpAny_pure ⟨plainId_quiet PySem.F.plain_sum_loop _, ih (i + 1) _ h1.objs.size _ (by omega) (W.frame _ _ _ sv1 fun b hb o z => other (fun y => out (y ▸ hb)) z) (Heap.get?_update_self _ hS3 rfl) ⟨_, new, rfl, _, rfl⟩ nr nrS (fun j hj => ?_) fun h' tk' r kp z0 z1 => ?_⟩)
    · obtain ⟨⟨o, z, y⟩, a1, a2⟩ := its j hj
      exact ⟨⟨o, other a2 (k1 _ _ a1 z), y⟩, a1, a2⟩
    · refine q h' tk' r (fun b o hb hbS z => kp b o hb hbS (other hbS (k1 _ _ hb z))) (fun z => nomatch z) fun _ => ?_
      cases left with
      | zero =>
        have := z0 rfl
        subst this
        have e' : i + 1 = n := by omega
        rw [← e']
        exact ⟨lS, kp _ _ nr nrS new⟩
      | succ left => exact z1 (Nat.succ_pos _)
theorem call_sumL {a b : Addr} {its : Array Value} (n : Nat) (ad : Nat → Addr) (arr acc : Nat → Array Value) {Q : Value → Shared → Prop} (hh : A.handled = none) (ha : s.heap.IsList a its) (hn : its.size = n) (hv : ∀ (i : Nat) (v : Value), its[i]? = some v → v = .ref (ad i)) (hb : s.heap.IsList b (acc 0))
    (ac : ∀ i, i < n → acc (i + 1) = acc i ++ arr i) (fit : ∀ i, i < n → (acc i).size + (arr i).size ≤ sizeLine) (hl : ∀ j, j < n → s.heap.IsList (ad j) (arr j))
    (q0 : ∀ h' tk, n = 0 → (∀ b o, s.heap.get? b = some o → h'.get? b = some o) → Q (.ref b) { s with heap := h', toks := tk })
    (q1 : ∀ h' tk r, (∀ b o, s.heap.get? b = some o → h'.get? b = some o) → s.heap.objs.size ≤ r → h'.get? r = some { cls := .type "list", data := .seq (acc n) } → Q (.ref r) { s with heap := h', toks := tk }) :
    wpAny (model P w) A (call (.builtin "sum") [.ref a, .ref b]) Q E s := by
  refine call_function_tree PySem.F.kind_sum PySem.F.plain_sum PySem.F.entry_sum (args_sumL _ _) ?_
  unfold Builtin.«sum»
  simp only [List.length_cons, List.length_nil]
  rw [if_neg (by decide)]
  refine wpAny_bind (wpAny_of_eq (show Builtin.Builtins.bindParams "sum" ["start"] 0 ⟨[Value.ref b], []⟩ = pure [some (Value.ref b)] from rfl) ?_)
  refine wpAny_bind (wpAny_pyIter_list ha ?_)
  refine wpAny_bind (wpAny_pure ?_)
  simp only [List.forIn_cons, List.forIn_nil]
  obtain ⟨ob, eb, cb, mb, db⟩ := hb
  have eb1 := Heap.get?_push_of_some { cls := .type "list_iterator", data := .fields #[.ref a, .int 0 0] } eb
  refine wpAny_bind (wpAny_bind (wpAny_bind (wpAny_isInstance (T := "list") (b := false) ⟨_, eb1, cb⟩ PySem.F.sub_list_str ?_)))
  simp only [Bool.false_eq_true, if_false]
  refine wpAny_pure (wpAny_bind (wpAny_bind (wpAny_isInstance (T := "list") (b := false) ⟨_, eb1, cb⟩ PySem.F.sub_list_bytes ?_)))
  simp only [Bool.false_eq_true, if_false]
  refine wpAny_pure (wpAny_bind (wpAny_bind (wpAny_isInstance (T := "list") (b := false) ⟨_, eb1, cb⟩ PySem.F.sub_list_bytearray ?_)))
  simp only [Bool.false_eq_true, if_false]
  refine wpAny_pure (wpAny_pure ?_)
  refine wpAny_bind (wpAny_newObj_type ?_)
  obtain ⟨oa, ea, ra⟩ := id ha
  have la := Heap.lt_size ea
  have lb := Heap.lt_size eb
  have z1 : (s.heap.push { cls := .type "list_iterator", data := .fields #[.ref a, .int 0 0] }).objs.size = s.heap.objs.size + 1 := Heap.size_push ..
  have old : ∀ {c : Addr} {o : Obj}, s.heap.get? c = some o → ((s.heap.push { cls := .type "list_iterator", data := .fields #[.ref a, .int 0 0] }).push { cls := .type "list", data := .seq #[.ref b] }).get? c = some o := fun z => Heap.get?_push_of_some _ (Heap.get?_push_of_some _ z)
  have ltS : ∀ {c : Addr} {o : Obj}, s.heap.get? c = some o → c ∉ [s.heap.objs.size] ∧ c ≠ s.heap.objs.size + 1 := fun z => by
    have := Heap.lt_size z
    refine ⟨fun y => ?_, Nat.ne_of_lt (Nat.lt_succ_of_lt this)⟩
    rw [List.mem_singleton.mp y] at this
    exact Nat.lt_irrefl _ this
  refine wpAny_pure ⟨plainId_quiet PySem.F.plain_sum_loop _, ?_⟩
  have W := Walks.list (prog := P) (w := w) (A := A.in1) (by simp [hh]) s.heap.objs.size a (Nat.ne_of_lt la) its
  rw [hn] at W
  have eS : ((s.heap.push { cls := .type "list_iterator", data := .fields #[.ref a, .int 0 0] }).push { cls := .type "list", data := .seq #[.ref b] }).get? (s.heap.push { cls := .type "list_iterator", data := .fields #[.ref a, .int 0 0] }).objs.size = some { cls := .type "list", dict := none, data := .seq #[.ref b] 0, slots := #[] } := Heap.get?_push_size _ rfl
  have eI : ((s.heap.push { cls := .type "list_iterator", data := .fields #[.ref a, .int 0 0] }).push { cls := .type "list", data := .seq #[.ref b] }).get? s.heap.objs.size = some { cls := .type "list_iterator", data := .fields #[.ref a, .int 0 0] } := Heap.get?_push_of_some _ (Heap.get?_push_size _ rfl)
  generalize (s.heap.push { cls := .type "list_iterator", data := .fields #[.ref a, .int 0 0] }).objs.size = S at eS z1
  generalize hG : ((s.heap.push { cls := .type "list_iterator", data := .fields #[.ref a, .int 0 0] }).push { cls := .type "list", data := .seq #[.ref b] }) = G at old eS eI
  refine sum_loopL W ad arr acc hv ac fit S ?_ ?_ n 0 { s with heap := G } b 0 (by omega) ⟨⟨_, eI, rfl, rfl⟩, ⟨_, old ea, ra⟩⟩ eS ⟨_, old eb, cb, mb, db⟩ (ltS eb).1 (by rw [z1]; exact (ltS eb).2) (fun j hj => ?_) fun h' tk r kp y0 y1 => ?_
  · intro z
    simp only [List.mem_cons, List.not_mem_nil, or_false] at z
    rcases z with z | z
    · rw [z1] at z
      exact absurd z (Nat.succ_ne_self _)
    · rw [z1] at z
      exact absurd z.symm (Nat.ne_of_lt (Nat.lt_succ_of_lt la))
  · rintro i h ⟨⟨o, e, _⟩, _⟩ c hc
    rw [List.mem_singleton.mp hc]
    exact Heap.lt_size e
  · obtain ⟨o, z, y⟩ := hl j hj
    exact ⟨⟨o, old z, y⟩, (ltS z).1, by rw [z1]; exact (ltS z).2⟩
  · have keep : ∀ c o, s.heap.get? c = some o → h'.get? c = some o := fun c o z => kp c o (ltS z).1 (by rw [z1]; exact (ltS z).2) (old z)
    cases n with
    | zero =>
      have := y0 rfl
      subst this
      exact q0 h' tk rfl keep
    | succ n =>
      obtain ⟨l1, l2⟩ := y1 (Nat.succ_pos _)
      refine q1 h' tk r keep ?_ l2
      rw [z1] at l1
      exact Nat.le_of_lt (Nat.lt_of_succ_lt l1)
end
section
variable {X : Cx}
theorem paired_get {α β : Type} {R : α → β → Prop} : ∀ {as : List α} {bs : List β} {i : Nat} {a : α}, Paired R as bs → as[i]? = some a → ∃ b, bs[i]? = some b ∧ R a b
  | _, _, 0, a, .cons h _, e => ⟨_, rfl, by cases e; exact h⟩
  | _, _, i + 1, a, .cons _ r, e => paired_get (i := i) r e
theorem take_flat {α : Type} : ∀ (ls : List (List α)) (i : Nat), i < ls.length → (ls.take (i + 1)).flatten = (ls.take i).flatten ++ ls.getD i []
  | [], _, h => absurd h (Nat.not_lt_zero _)
  | l :: ls, 0, _ => by simp
  | l :: ls, i + 1, h => by
    have := take_flat ls i (Nat.lt_of_succ_lt_succ h)
    show (l :: ls.take (i + 1)).flatten = (l :: ls.take i).flatten ++ ls.getD i []
    rw [List.flatten_cons, List.flatten_cons, this, List.append_assoc]
/-- the values of some tracked lists -/
theorem lists_vals {pins : List (Addr × Obj)} {σ : L2.St} {H : Hp} {s : Shared} (I : L2.Inv X pins σ H s) : ∀ {ps : List Addr} {xss : List (List V)}, Paired (fun p xs => H p = some (.lst xs)) ps xss → ∃ vss : List (List Value), Paired (fun p vs => s.heap.IsList p (List.toArray vs)) ps vss ∧ Paired Vals xss vss
  | _, _, .nil => ⟨[], .nil, .nil⟩
  | _, _, .cons h r => by
    obtain ⟨vss, a, b⟩ := lists_vals I r
    obtain ⟨its, rv, pl, _⟩ := I.list (SqL.of h)
    exact ⟨its :: vss, .cons pl.isList a, .cons rv b⟩
theorem vals_flat : ∀ {xss : List (List V)} {vss : List (List Value)}, Paired Vals xss vss → Vals xss.flatten vss.flatten
  | _, _, .nil => .nil
  | _, _, .cons h r => by
    rw [List.flatten_cons, List.flatten_cons]
    exact h.append (vals_flat r)
/-- sum(xs, start), xs a list of tracked lists, start an empty one -/
def rSumL (K : PySem.W.Frag) : List V → Hp → VK → Prop := fun vs H Q => ∃ (a b : Addr) (ps : List Addr) (xss : List (List V)), vs = [.ref a, .ref b] ∧ SqL K H a (ps.map V.ref) ∧ H b = some (.lst []) ∧ Paired (fun p xs => H p = some (.lst xs)) ps xss ∧ xss.flatten.length ≤ sizeLine ∧
  (ps = [] → Q (.ref b) H) ∧ ∀ r, H r = none → Q (.ref r) (upd H r (.lst xss.flatten))
theorem cr_sumL (hc : X.calm = true) : CallR X (.builtin "sum") (rSumL X.K) := by
  intro pins s σ H vs us Q I r h
  obtain ⟨a, b, ps, xss, rfl, ha, hb, hp, fit, q0, q1⟩ := h
  obtain ⟨u1, u2, rfl, ra, rb⟩ := vals2 r
  cases ra
  cases rb
  obtain ⟨its, rv, pa, _⟩ := I.list ha
  obtain ⟨itb, rvb, pb, _⟩ := I.list (SqL.of hb)
  cases rvb
  obtain ⟨vss, pl, pv⟩ := lists_vals I hp
  have l1 := rv.length
  rw [List.length_map] at l1
  have l2 := pl.length
  have vf := vals_flat pv
  have lf := vf.length
  refine call_sumL (P := X.prog) (w := X.w) (A := X.A) ps.length (fun i => ps.getD i 0) (fun i => (vss.getD i []).toArray) (fun i => (vss.take i).flatten.toArray) (I.ok.hd hc) pa.isList (by rw [List.size_toArray]; exact l1.symm) (fun i v hv => ?_) (by simpa using pb.isList) (fun i hi => ?_) (fun i hi => ?_) (fun j hj => ?_) (fun h' tk hn kp => ?_) fun h' tk r' kp big hr => ?_
  · rw [List.getElem?_toArray] at hv
    have il : i < ps.length := by
      rw [l1]
      exact (List.getElem?_eq_some_iff.mp hv).1
    obtain ⟨u, hu, ru⟩ := rv.get (i := i) (x := .ref ps[i]) (by rw [List.getElem?_map, List.getElem?_eq_getElem il]; rfl)
    rw [hv] at hu
    cases hu
    have : v = Value.ref ps[i] := ru
    rw [this, List.getD_eq_getElem?_getD, List.getElem?_eq_getElem il]
    rfl
  · have il : i < vss.length := by omega
    rw [take_flat vss i il]
    simp
  · have il : i < vss.length := by omega
    have e : vss.flatten = (vss.take (i + 1)).flatten ++ (vss.drop (i + 1)).flatten := by rw [← List.flatten_append, List.take_append_drop]
    have e2 := take_flat vss i il
    have n1 := congrArg List.length e
    rw [e2, List.length_append, List.length_append] at n1
    rw [List.size_toArray, List.size_toArray]
    omega
  · obtain ⟨vs, e, r⟩ := paired_get pl (List.getElem?_eq_getElem hj)
    rw [List.getD_eq_getElem?_getD, List.getElem?_eq_getElem hj, List.getD_eq_getElem?_getD, e]
    exact r
  · exact ⟨.ref b, H, I.kept kp, rfl, q0 (List.length_eq_zero_iff.mp hn)⟩
  · have e : (vss.take ps.length).flatten = vss.flatten := by rw [List.take_of_length_le (by omega)]
    rw [e] at hr
    exact ⟨.ref r', _, I.laid (t' := tk) kp big (show ObjOk X.prog X.w _ _ _ (.lst xss.flatten) from ⟨fit, vss.flatten, 0, vf, hr⟩), rfl, q1 r' (I.hok.fresh big)⟩
end
end Mine

set_option Elab.async false
set_option linter.all false
set_option maxRecDepth 100000
set_option maxHeartbeats 4000000
/-! a != b of instances whose class has == of its own and != of object. -/
namespace Mine
open PySem PySem.Spec PyProof.Rows L2 PySem.W Builtin
section
variable {prog : Program} {w : World} {A : Around} {E : Value → Shared → Prop} {s : Shared} {K : PySem.W.Frag} {x C f : Addr} {ox : Obj} {od : Option Obj} {b : Value}
theorem ifBoundB {M : Model} {name : Str} {id T : String} {args : List Value} {Q : Option Value → Shared → Prop} (X : K.In s.heap) (I : InstAt s.heap x ox C od) (hs : findIn K (.ref C) name = some (some (.builtin id))) (S : Slot T name id)
    (h : wpAny M A (call (.builtin id) (.ref x :: args)) (fun v => Q (some v)) E s) : wpAny M A (callSpecialIfBound? (.ref x) name args) Q E s := by
  simp only [callSpecialIfBound?, bindSpecialIfBound?]
  refine wpAny_holding (wpAny_bind (wpAny_bind (wpAny_bind (I.type.here ((looks_findIn X hs).here ?_)))))
  refine wpAny_bind (wpAny_askSetting (wpAny_ite ?_))
  have fin : wpAny M A (call (.builtin id) ([.ref x] ++ args) >>= fun v => pure (some v)) Q E s := wpAny_bind (wpAny_mono h (fun v s' h' => wpAny_pure h') fun _ _ h' => h')
  simp only [S.bind]
  split
  · exact wpAny_bind (wpAny_pure (wpAny_pure fin))
  · exact wpAny_tryCatch (wpAny_bind (wpAny_pure (wpAny_pure fin)))
theorem ne_call {Q : Value → Shared → Prop} (hu : A.units + 1 < cLine) (X : K.In s.heap) (I : InstAt s.heap x ox C od) (hm : mroIn K C (.type "object") = some true) (he : findIn K (.ref C) "__eq__" = some (some (.ref f))) (hf : isFn K (.ref f) = true)
    (h : wpAny (model prog w) A.in1 (call (.ref f) [.ref x, b]) (fun v s' => ∃ r, v = .bool r ∧ Q (.bool (!r)) s') E s) : wpAny (model prog w) A (call (.builtin "object.__ne__") [.ref x, b]) Q E s := by
  refine wpAny_call (codeAny_call_builtin PySem.F.slot_range_iterator_ne.plain PySem.F.cmpEntry_ne ?_)
  obtain ⟨hh, g, dr, t, os⟩ := s
  have L0 := I.type (M := model prog w)
  have L1 := looks_mroIn (M := model prog w) X hm
  simp only [checkBuiltinCall, PySem.F.cmpKind_ne, PySem.F.cmpSplit_ne]
  refine wpAny_bind ?_
  unfold isInstance
  have hu1 : A.in1.units < cLine := hu
  repeat (first
    | with_reducible refine wpAny_cRoomFor hu1 ?_
    | (with_reducible refine wpAny_bind (m := callSpecialIfBound? (.ref x) (Str.ofString "__eq__") [b]) ?_
       refine ifBound_K X I he hf (wpAny_mono h (fun v s' hv => ?_) fun _ _ e => e)
       obtain ⟨r, rfl, hq⟩ := hv
       refine wpAny_bind (m := truthy (.bool r)) (wpAny_truthy_bool ?_)
       exact wpAny_pure hq)
    | lk)
theorem cmpN {h₀ : Heap} {L : Addr} {m : Str → Option Value} {tb : Value} {Q : Value → Shared → Prop} (hu : A.units + 1 < cLine) (F : Fr h₀ L s.heap m) (X₀ : K.In h₀) (I : InstAt s.heap x ox C od) (hb : Looks (model prog w) s.heap (typeOf b) tb) (hn : notFirst K C tb = true)
    (hne : findIn K (.ref C) "__ne__" = some (some (.builtin "object.__ne__"))) (hm : mroIn K C (.type "object") = some true) (he : findIn K (.ref C) "__eq__" = some (some (.ref f))) (hf : isFn K (.ref f) = true)
    (h : wpAny (model prog w) A.in1 (call (.ref f) [.ref x, b]) (fun v s' => ∃ r, v = .bool r ∧ Q (.bool (!r)) s') E s) : wpAny (model prog w) A (richCompare .NotEq (.ref x) b) Q E s := by
  have X := X₀.keeps F.keep
  have one : wpAny (model prog w) A (tryCompare (.ref x) (cmpInfo .NotEq).2.1 b) (fun r s' => ∃ v, r = some v ∧ Q v s') E s := by
    unfold tryCompare
    refine wpAny_bind (ifBoundB X I hne PySem.F.slot_range_iterator_ne (ne_call hu X I hm he hf (wpAny_mono h (fun v s' hv => ?_) fun _ _ e => e)))
    obtain ⟨r, rfl, hq⟩ := hv
    exact ⟨r, rfl, wpAny_pure ⟨_, rfl, hq⟩⟩
  unfold richCompare
  simp only [oneThing_ref]
  refine wpAny_holding (wpAny_bind (wpAny_cRoomFor (by omega) ?_))
  refine wpAny_bind (I.type.here (wpAny_bind (hb.here ?_)))
  split
  · rename_i q
    have e : subIn K tb (.ref C) = some false := by
      rcases Bool.or_eq_true_iff.mp hn with e | e
      · rw [beq_iff_eq.mp e] at q; simp at q
      · exact beq_iff_eq.mp e
    refine wpAny_bind ((looks_subIn X e).here ?_)
    simp only [Bool.false_eq_true, if_false]
    refine wpAny_bind (wpAny_mono one (fun r s' z => ?_) fun _ _ e => e)
    obtain ⟨v, rfl, hq⟩ := z
    exact wpAny_pure hq
  · refine wpAny_bind (wpAny_pure ?_)
    simp only [Bool.false_eq_true, if_false]
    refine wpAny_bind (wpAny_mono one (fun r s' z => ?_) fun _ _ e => e)
    obtain ⟨v, rfl, hq⟩ := z
    exact wpAny_pure hq
end
section
variable {X : Cx} {n : Nat} {C f : Addr} {fd : FuncData} {ps : List Str} {R : Addr → Addr → Hp → Prop}
def rNeIns (C : Addr) (R : Addr → Addr → Hp → Prop) : R2 := fun x y H Q => DIns C R x y H ∧ ∀ H', Ext H H' → Q (.bl false) H'
theorem op_neIns (F : FnOk X.prog X.w X.K X.mg X.base CX0 n f fd ps (spEq R)) (hs : findIn X.K (.ref C) "__eq__" = some (some (.ref f))) (hf : isFn X.K (.ref f) = true) (hne : findIn X.K (.ref C) "__ne__" = some (some (.builtin "object.__ne__"))) (hm : mroIn X.K C (.type "object") = some true)
    (hb : Binds X.K fd ps []) (hr : Room (n + 1) X.A) : OpR X (compareOp .NotEq) (rNeIns C R) := by
  intro pins s σ H x y v u Q I rx ry hq
  obtain ⟨⟨a, b, dx, dy, fs, gs, rfl, rfl, ha, hb', hr'⟩, q⟩ := hq
  cases rx
  cases ry
  obtain ⟨mA, J, _⟩ := ins_get I.hok ha
  obtain ⟨mB, J', _⟩ := ins_get I.hok hb'
  obtain ⟨od, J, _⟩ := J.look
  obtain ⟨od', J', _⟩ := J'.look
  obtain ⟨m, hF⟩ := I.fr
  have hr1 : Room n X.A.in1 := Room.in1 hr
  show wpAny (model X.prog X.w) X.A (richCompare .NotEq _ _) (EP X pins σ Q) X.xe s
  refine cmpN (tb := .ref C) (by have := hr.un; omega) hF I.ok.mod.kin J J'.type (by simp [PySem.W.notFirst]) hne hm hs hf ?_
  have hsp : spEq R [.ref a, .ref b] H (fun v H' => v = .bl true ∧ Ext H H') E0 := ⟨a, b, rfl, hr', fun H' e => ⟨rfl, e⟩⟩
  have e0 : Env0 X.prog X.w X.K X.mg X.base X.A.in1 X.stack s H := by
    have e := I.env0
    exact ⟨e.frames, e.mod, e.bs, e.bsz, e.funs, e.frf, e.hok, e.bare⟩
  have hl := F.len _ _ _ _ hsp
  have r2 : Vals [V.ref a, V.ref b] [Value.ref a, Value.ref b] := .cons rfl (.cons rfl .nil)
  refine wpAny_call (codeAny_mono (F.run X.A.in1 X.stack s H ⟨[.ref a, .ref b], []⟩ [.ref a, .ref b] [.ref a, .ref b] _ E0 hr1 e0 (by
    have := hb s [.ref a, .ref b] I.kIn (by simpa using hl)
    simpa using this) r2 hsp) fun r s' hq => ?_)
  cases r with
  | error e => exact pass0 pins σ H s e s' I hq
  | ok fl =>
    cases fl with
    | ret w =>
      obtain ⟨z, H', I', rz, ez, ex⟩ := I.after hq
      subst ez
      cases rz
      exact ⟨true, rfl, .bl false, H', I', rfl, q H' ex⟩
    | next => exact False.elim hq
    | brk => exact False.elim hq
    | cont => exact False.elim hq
end
end Mine

set_option Elab.async false
set_option linter.all false
set_option maxRecDepth 100000
set_option maxHeartbeats 4000000
/-! o.m(k = ..) of a method with one parameter. -/
namespace Mine
open PySem PySem.Spec PyProof.Rows L2
section
variable {X : Cx} {k : Nat} {f C : Addr} {fd : FuncData} {ps : List Str} {sp : L2.Sp} {m k1 : Str} {pos apos : Pos} {o : Expr} {kws : List Keyword} {ta : TE} {tk : TA}
def tMethK1 (C : Addr) (m : Str) (sp : L2.Sp) (ta : TE) (tk : TA) : TE := fun σ H Q => ta σ H fun x H1 => ∃ a dx fs, x = .ref a ∧ H1 a = some (.ins C dx fs) ∧ fs.lookup m = none ∧ tk σ H1 fun zs H2 => ∃ u, zs = [u] ∧ sp [x, u] H2 Q E0
theorem pe_methK1 {pl : Sem Bool} (he : PE X o ta) (c : Cls X.K C) (hm : Meth X.K C m f) (F : FnOk X.prog X.w X.K X.mg X.base CX0 k f fd ps sp) (hr : Room k X.A) (hps : ps.length = 2)
    (hb : ∀ (s : Shared) (a u : Value), BindsTo s fd ⟨[a], [(k1, u)]⟩ (ps.zip [a, u])) (hkw : PK X kws tk)
    (hall : (backToKw pos (keywordEach kws X.env)).all (·.1.isSome) = true := by rfl) (hks : (backToKw pos (keywordEach kws X.env)).filterMap (·.1) = [k1] := by rfl)
    (hpl : ((backTo pos (starEach [] X.env)).any (·.1) || (backToKw pos (keywordEach kws X.env)).any (·.1.isNone)) = false := by rfl)
    (ht : eval (.Call (.Attribute o m apos) [] kws pos) X.env = (do
      let ov ← eval o X.env
      standAt apos.atName
      let (f, first) ← holding [ov] (getMethod ov m pl)
      callWith pos f first (backTo pos (starEach [] X.env)) (backToKw pos (keywordEach kws X.env))) := by rfl) :
    PE X (.Call (.Attribute o m apos) [] kws pos) (tMethK1 C m sp ta tk) := by
  refine ⟨fun pins s σ H Q I h => ?_⟩
  refine PySem.W.methodCall_KW (pl := pl) (thn (he.run pins s σ H _ I h) fun u s1 ⟨x, H1, I1, rx, a, dx, fs, ex, ea, l, q⟩ => ?_) ht
  subst ex
  obtain rfl : u = Value.ref a := rx
  refine getmeth_ok I1 ea c hm l ?_
  refine PySem.W.callWith_KW0 (first := [.ref a]) (h₀ := X.base) I.ok.mod.kin hm.kp hall ?_ hpl
  refine thn (hkw.run pos pins s1 σ H1 _ I1 q) fun ws s2 ⟨zs, H2, I2, rz, uu, ez, q2⟩ => ⟨I2.kIn, ?_⟩
  subst ez
  obtain ⟨w1, ew, r1⟩ := vals1 rz
  subst ew
  rw [hks]
  show wpAny _ _ (call (.ref f) [.ref a] [(k1, w1)]) _ _ _
  refine wpAny_call (codeAny_mono (F.run X.A X.stack s2 H2 ⟨[.ref a], [(k1, w1)]⟩ [.ref a, w1] [.ref a, uu] Q E0 hr I2.env0 (hb s2 (.ref a) w1) (.cons rfl (.cons r1 .nil)) q2) fun r s' hq => ?_)
  cases r with
  | error e => exact pass0 pins σ H2 s2 e s' I2 hq
  | ok fl =>
    cases fl with
    | ret u => exact I2.after hq
    | next => exact False.elim hq
    | brk => exact False.elim hq
    | cont => exact False.elim hq
end
end Mine

set_option Elab.async false
set_option linter.all false
set_option maxRecDepth 100000
set_option maxHeartbeats 4000000
/-! tuple(zip(xs, ys)) of two lists. -/
namespace Mine
open PySem PySem.Spec PyProof.Rows L2
theorem zip_nolen : typeLookup (.type "zip") "__len__" = pure none := by rw [typeLookup_type, builtinLookup_eq_fast]; kernel_rfl
theorem zip_nohint : typeLookup (.type "zip") "__length_hint__" = pure none := by rw [typeLookup_type, builtinLookup_eq_fast]; kernel_rfl
/-- what a zip has given so far -/
structure Gave (h0 h : Heap) (n0 : Nat) (ex : List Addr) (xs ys : Array Value) (ts : List Addr) : Prop where
  prs : ∀ (j : Nat) (t : Addr), ts[j]? = some t → ∃ x y, xs[j]? = some x ∧ ys[j]? = some y ∧ IsPair h t x y
  low : ∀ t ∈ ts, n0 ≤ t ∧ t < h.objs.size ∧ t ∉ ex
  nd : ts.Nodup
  kp : ∀ c o, c ∉ ex → h0.get? c = some o → h.get? c = some o
theorem Gave.keep {h0 h h' : Heap} {n0 : Nat} {ex : List Addr} {xs ys : Array Value} {ts : List Addr} (g : Gave h0 h n0 ex xs ys ts) (k : ∀ c o, c ∉ ex → h.get? c = some o → h'.get? c = some o) : Gave h0 h' n0 ex xs ys ts where
  prs j t e := by
    obtain ⟨x, y, a, b, c⟩ := g.prs j t e
    exact ⟨x, y, a, b, k _ _ (g.low t (List.mem_of_getElem? e)).2.2 c⟩
  low t ht := by
    obtain ⟨j, e⟩ := List.mem_iff_getElem?.mp ht
    obtain ⟨x, y, a, b, c⟩ := g.prs j t e
    exact ⟨(g.low t ht).1, Heap.lt_size (k _ _ (g.low t ht).2.2 c), (g.low t ht).2.2⟩
  nd := g.nd
  kp c o hc e := k c o hc (g.kp c o hc e)
theorem Gave.snoc {h0 h h' : Heap} {n0 : Nat} {ex : List Addr} {xs ys : Array Value} {ts : List Addr} {x y : Value} {t : Addr} (g : Gave h0 h n0 ex xs ys ts) (k : ∀ c o, c ∉ ex → h.get? c = some o → h'.get? c = some o) (hx : xs[ts.length]? = some x) (hy : ys[ts.length]? = some y) (ht : IsPair h' t x y) (low : n0 ≤ t) (out : t ∉ ex) (new : h.objs.size ≤ t) : Gave h0 h' n0 ex xs ys (ts ++ [t]) where
  prs j u e := by
    rw [List.getElem?_append] at e
    split at e
    · exact (g.keep k).prs j u e
    · rename_i h1
      have : j - ts.length = 0 := by
        cases e2 : j - ts.length with
        | zero => rfl
        | succ m => rw [e2] at e; cases e
      rw [this] at e
      cases e
      have ej : j = ts.length := by omega
      subst ej
      exact ⟨x, y, hx, hy, ht⟩
  low u hu := by
    rcases List.mem_append.mp hu with hu | hu
    · exact (g.keep k).low u hu
    · rw [List.mem_singleton.mp hu]
      exact ⟨low, Heap.lt_size ht, out⟩
  nd := by
    rw [List.nodup_append]
    refine ⟨g.nd, by simp, fun a ha b hb e => ?_⟩
    rw [List.mem_singleton.mp hb] at e
    subst e
    exact Nat.lt_irrefl _ (Nat.lt_of_lt_of_le (g.low _ ha).2.1 new)
  kp := (g.keep k).kp
section
variable {prog : Program} {w : World} {A : Around} {E : Value → Shared → Prop} {R : Result → Shared → Prop}
theorem extend_zip {z TI TO i1 i2 l1 l2 S : Addr} {xs ys : Array Value} {h0 : Heap} {n0 : Nat} (D : ZipApart z TI TO i1 i2 l1 l2) (hh : A.handled = none) (same : xs.size = ys.size) (fit : xs.size ≤ sizeLine) (hS : S ∉ [z, TI, TO, i1, i2, l1, l2]) (res : Value) :
    ∀ (k i : Nat) (s : Shared) (ts : List Addr) (c : Nat), xs.size - i = k → i ≤ xs.size → ts.length = i → n0 ≤ s.heap.objs.size → Gave h0 s.heap n0 [z, TO, i1, i2, S] xs ys ts →
      (IsZip s.heap z TI TO .none ∨ ∃ T f oT, IsZipHeld s.heap z TI TO T f ∧ T ∉ [z, TO, i1, i2, S] ∧ s.heap.get? T = some oT) → IsPair s.heap TI (.ref i1) (.ref i2) → (∃ a b, IsPair s.heap TO a b) → s.heap.IsListIter i1 l1 i → s.heap.IsListIter i2 l2 i → s.heap.IsList l1 xs → s.heap.IsList l2 ys →
      s.heap.get? S = some { cls := .type "list", dict := none, data := .seq (ts.map Value.ref).toArray c, slots := #[] } →
      (∀ (h' : Heap) (us : List Addr) (c' : Nat), us.length = xs.size → Gave h0 h' n0 [z, TO, i1, i2, S] xs ys us → h'.get? S = some { cls := .type "list", dict := none, data := .seq (us.map Value.ref).toArray c', slots := #[] } → R (.ok (.ret res)) { s with heap := h' }) →
      codeAny (model prog w) A (.builtin "list.extend.loop" ⟨[.ref S, .ref z, res], []⟩) R s := by
  simp only [List.mem_cons, List.not_mem_nil, or_false, not_or] at hS
  obtain ⟨hS1, hS2, hS3, hS4, hS5, hS6, hS7⟩ := hS
  have off : ∀ {h h' : Heap}, (∀ c o, c ≠ z → c ≠ TO → c ≠ i1 → c ≠ i2 → h.get? c = some o → h'.get? c = some o) → ∀ c o, c ∉ [z, TO, i1, i2, S] → h.get? c = some o → h'.get? c = some o := fun kp c o hc e => by
    simp only [List.mem_cons, List.not_mem_nil, or_false, not_or] at hc
    exact kp c o hc.1 hc.2.1 hc.2.2.1 hc.2.2.2.1 e
  intro k
  induction k with
  | zero =>
    intro i s ts c hk hi hl hn g hz hTI hTO h1 h2 hl1 hl2 eS hR
    have hin : i = xs.size := by omega
    obtain ⟨a, b, hTO⟩ := hTO
    have end1 : xs[i]? = none ∨ ys[i]? = none := .inl (Array.getElem?_eq_none (by omega))
    have fin : ∀ h', (∀ c o, c ≠ z → c ≠ TO → c ≠ i1 → c ≠ i2 → s.heap.get? c = some o → h'.get? c = some o) → R (.ok (.ret res)) { s with heap := h' } := fun h' kp =>
      hR h' ts c (by omega) (g.keep (off kp)) (kp _ _ hS1 hS3 hS4 hS5 eS)
    refine codeAny_builtin F.entry_extend_loop ?_
    rw [Around.under_plainId F.plain_extend_loop _]
    show wpAny _ A.in1 (pyNext (.ref z) >>= _) _ _ s
    rcases hz with hz | ⟨T, f, oT, hz, _, hT⟩
    · exact wpAny_bind (wpAny_pyNext_zip_end hh D hz hTI hTO h1 h2 hl1 hl2 end1 fun h' kp => wpAny_pure (fin h' kp))
    · exact wpAny_bind (wpAny_pyNext_zip_end_held hh D hz hT hTI h1 h2 hl1 hl2 end1 fun h' kp => wpAny_pure (fin h' fun c o c1 c2 c3 c4 e => kp c o c1 c3 c4 e))
  | succ k ih =>
    intro i s ts c hk hi hl hn g hz hTI hTO h1 h2 hl1 hl2 eS hR
    have hlt : i < xs.size := by omega
    obtain ⟨a, b, hTO⟩ := hTO
    obtain ⟨x, hx⟩ : ∃ x, xs[i]? = some x := ⟨_, Array.getElem?_eq_getElem hlt⟩
    obtain ⟨y, hy⟩ : ∃ y, ys[i]? = some y := ⟨_, Array.getElem?_eq_getElem (by omega)⟩
    refine codeAny_builtin F.entry_extend_loop ?_
    rw [Around.under_plainId F.plain_extend_loop _]
    show wpAny _ A.in1 (pyNext (.ref z) >>= _) _ _ s
    have nS : S < s.heap.objs.size := Heap.lt_size eS
    have nz : z < s.heap.objs.size := by rcases hz with hz | ⟨_, _, _, hz, _, _⟩ <;> exact Heap.lt_size hz
    have nTO : TO < s.heap.objs.size := Heap.lt_size hTO
    have ni1 : i1 < s.heap.objs.size := by obtain ⟨_, e, _⟩ := id h1; exact Heap.lt_size e
    have ni2 : i2 < s.heap.objs.size := by obtain ⟨_, e, _⟩ := id h2; exact Heap.lt_size e
    have tS : s.heap.objs.size ≠ S := Nat.ne_of_gt nS
    have tout : s.heap.objs.size ∉ [z, TO, i1, i2, S] := by
      simp only [List.mem_cons, List.not_mem_nil, or_false, not_or]
      exact ⟨Nat.ne_of_gt nz, Nat.ne_of_gt nTO, Nat.ne_of_gt ni1, Nat.ne_of_gt ni2, tS⟩
    have ea : ((ts ++ [s.heap.objs.size]).map Value.ref).toArray = (ts.map Value.ref).toArray.push (.ref s.heap.objs.size) := by simp
    have sa : (ts.map Value.ref).toArray.size = i := by simp [hl]
    rcases hz with hz | ⟨T, f, oT, hz, nT, hT⟩
    · refine wpAny_bind (wpAny_pyNext_zip_item D hz hTI hTO h1 h2 hl1 hl2 hx hy fun h' z' TO' h1' h2' hp hsz kp => ?_)
      have hz2 : ∃ T f oT, IsZipHeld h' z TI TO T f ∧ T ∉ [z, TO, i1, i2, S] ∧ h'.get? T = some oT := ⟨_, false, _, z', tout, hp⟩
      have hTO2 : ∃ a b, IsPair h' TO a b := ⟨_, _, TO'⟩
      have eS' := kp _ _ hS1 hS3 hS4 hS5 eS
      show wpAny _ A.in1 (updateSeq S (·.push (.ref s.heap.objs.size)) >>= _) _ _ _
      have upk : ∀ c o, c ≠ S → h'.get? c = some o → (h'.update S (Obj.mapSeq (·.push (.ref s.heap.objs.size)))).get? c = some o := fun c o hc e => (Heap.get?_update_other _ _ (Ne.symm hc)).trans e
      have kp2 : ∀ c o, c ∉ [z, TO, i1, i2, S] → s.heap.get? c = some o → (h'.update S (Obj.mapSeq (·.push (.ref s.heap.objs.size)))).get? c = some o := fun c o hc e => upk c o (fun q => hc (by rw [q]; simp)) (off kp c o hc e)
      have hx' : xs[ts.length]? = some x := by rw [hl]; exact hx
      have hy' : ys[ts.length]? = some y := by rw [hl]; exact hy
      obtain ⟨T2, f2, oT2, q1, q2, q3⟩ := hz2
      obtain ⟨a2, b2, hTO2⟩ := hTO2
      refine wpAny_bind ?_
      refine wpAny_updateSeq eS' rfl (wpAny_pure ⟨plainId_quiet F.plain_extend_loop _, ih (i + 1) _ (ts ++ [s.heap.objs.size]) _ (by omega) hlt (by rw [List.length_append, List.length_singleton]; omega) (Nat.le_trans hn (Nat.le_of_lt (Heap.lt_size (upk _ _ tS hp)))) (g.snoc kp2 hx' hy' (upk _ _ tS hp) hn tout (Nat.le_refl _)) (.inr ⟨T2, f2, oT2, upk _ _ (Ne.symm hS1) q1, q2, upk _ _ (fun q => q2 (by rw [q]; simp)) q3⟩)
        (upk _ _ (Ne.symm hS2) (kp _ _ D.TIz D.TITO D.TIi1 D.TIi2 hTI)) ⟨a2, b2, upk _ _ (Ne.symm hS3) hTO2⟩ (h1'.at fun o e => upk _ _ (Ne.symm hS4) e) (h2'.at fun o e => upk _ _ (Ne.symm hS5) e) (hl1.at fun o e => upk _ _ (Ne.symm hS6) (kp _ _ D.l1z D.l1TO D.l1i1 D.l1i2 e)) (hl2.at fun o e => upk _ _ (Ne.symm hS7) (kp _ _ D.l2z D.l2TO D.l2i1 D.l2i2 e)) (by rw [ea]; exact Heap.get?_update_self _ eS' rfl) fun h'' us c' r1 r2 r3 => hR h'' us c' r1 r2 r3⟩) (by omega) (by rw [Array.size_push]; omega)
    · refine wpAny_bind (wpAny_pyNext_zip_item_held D hz hT hTI h1 h2 hl1 hl2 hx hy fun h' z' h1' h2' hp hsz kp0 => ?_)
      have kp : ∀ c o, c ≠ z → c ≠ TO → c ≠ i1 → c ≠ i2 → s.heap.get? c = some o → h'.get? c = some o := fun c o c1 _ c3 c4 e => kp0 c o c1 c3 c4 e
      have hTO2 : ∃ a b, IsPair h' TO a b := ⟨_, _, kp0 _ _ D.TOz D.TOi1 D.TOi2 hTO⟩
      have hz2 : ∃ T f oT, IsZipHeld h' z TI TO T f ∧ T ∉ [z, TO, i1, i2, S] ∧ h'.get? T = some oT := ⟨T, true, oT, z', nT, off kp _ _ nT hT⟩
      have eS' := kp _ _ hS1 hS3 hS4 hS5 eS
      show wpAny _ A.in1 (updateSeq S (·.push (.ref s.heap.objs.size)) >>= _) _ _ _
      have upk : ∀ c o, c ≠ S → h'.get? c = some o → (h'.update S (Obj.mapSeq (·.push (.ref s.heap.objs.size)))).get? c = some o := fun c o hc e => (Heap.get?_update_other _ _ (Ne.symm hc)).trans e
      have kp2 : ∀ c o, c ∉ [z, TO, i1, i2, S] → s.heap.get? c = some o → (h'.update S (Obj.mapSeq (·.push (.ref s.heap.objs.size)))).get? c = some o := fun c o hc e => upk c o (fun q => hc (by rw [q]; simp)) (off kp c o hc e)
      have hx' : xs[ts.length]? = some x := by rw [hl]; exact hx
      have hy' : ys[ts.length]? = some y := by rw [hl]; exact hy
      obtain ⟨T2, f2, oT2, q1, q2, q3⟩ := hz2
      obtain ⟨a2, b2, hTO2⟩ := hTO2
      refine wpAny_bind ?_
      refine wpAny_updateSeq eS' rfl (wpAny_pure ⟨plainId_quiet F.plain_extend_loop _, ih (i + 1) _ (ts ++ [s.heap.objs.size]) _ (by omega) hlt (by rw [List.length_append, List.length_singleton]; omega) (Nat.le_trans hn (Nat.le_of_lt (Heap.lt_size (upk _ _ tS hp)))) (g.snoc kp2 hx' hy' (upk _ _ tS hp) hn tout (Nat.le_refl _)) (.inr ⟨T2, f2, oT2, upk _ _ (Ne.symm hS1) q1, q2, upk _ _ (fun q => q2 (by rw [q]; simp)) q3⟩)
        (upk _ _ (Ne.symm hS2) (kp _ _ D.TIz D.TITO D.TIi1 D.TIi2 hTI)) ⟨a2, b2, upk _ _ (Ne.symm hS3) hTO2⟩ (h1'.at fun o e => upk _ _ (Ne.symm hS4) e) (h2'.at fun o e => upk _ _ (Ne.symm hS5) e) (hl1.at fun o e => upk _ _ (Ne.symm hS6) (kp _ _ D.l1z D.l1TO D.l1i1 D.l1i2 e)) (hl2.at fun o e => upk _ _ (Ne.symm hS7) (kp _ _ D.l2z D.l2TO D.l2i1 D.l2i2 e)) (by rw [ea]; exact Heap.get?_update_self _ eS' rfl) fun h'' us c' r1 r2 r3 => hR h'' us c' r1 r2 r3⟩) (by omega) (by rw [Array.size_push]; omega)
end
section
variable {prog : Program} {w : World} {A : Around} {E : Value → Shared → Prop} {s : Shared}
theorem collect_zip {z TI TO i1 i2 l1 l2 : Addr} {xs ys : Array Value} {a b : Value} {Q : List Value → Shared → Prop} (hh : A.handled = none) (D : ZipApart z TI TO i1 i2 l1 l2) (same : xs.size = ys.size) (fit : xs.size ≤ sizeLine)
    (hz : IsZip s.heap z TI TO .none) (hTI : IsPair s.heap TI (.ref i1) (.ref i2)) (hTO : IsPair s.heap TO a b) (h1 : s.heap.IsListIter i1 l1 0) (h2 : s.heap.IsListIter i2 l2 0) (hl1 : s.heap.IsList l1 xs) (hl2 : s.heap.IsList l2 ys)
    (hQ : ∀ (h' : Heap) (us : List Addr), us.length = xs.size → Gave s.heap h' s.heap.objs.size [z, TO, i1, i2, s.heap.objs.size] xs ys us → Q (us.map Value.ref) { s with heap := h' }) : wpAny (model prog w) A (collect (.ref z)) Q E s := by
  have nz : z < s.heap.objs.size := Heap.lt_size hz
  have nTO : TO < s.heap.objs.size := Heap.lt_size hTO
  have nTI : TI < s.heap.objs.size := Heap.lt_size hTI
  have ni1 : i1 < s.heap.objs.size := by obtain ⟨_, e, _⟩ := id h1; exact Heap.lt_size e
  have ni2 : i2 < s.heap.objs.size := by obtain ⟨_, e, _⟩ := id h2; exact Heap.lt_size e
  have nl1 : l1 < s.heap.objs.size := by obtain ⟨_, e, _⟩ := id hl1; exact Heap.lt_size e
  have nl2 : l2 < s.heap.objs.size := by obtain ⟨_, e, _⟩ := id hl2; exact Heap.lt_size e
  have hSI : s.heap.objs.size ≠ z := Nat.ne_of_gt nz
  have hS : s.heap.objs.size ∉ [z, TI, TO, i1, i2, l1, l2] := by
    simp only [List.mem_cons, List.not_mem_nil, or_false, not_or]
    exact ⟨hSI, Nat.ne_of_gt nTI, Nat.ne_of_gt nTO, Nat.ne_of_gt ni1, Nat.ne_of_gt ni2, Nat.ne_of_gt nl1, Nat.ne_of_gt nl2⟩
  unfold collect
  refine wpAny_bind (wpAny_runValue (codeAny_builtin F.entry_proto_collect ?_))
  rw [Around.under_plainId F.plain_proto_collect _]
  show wpAny _ A.in1 (newList [] >>= fun l => again (.builtin "list.__iadd__" ⟨[l, .ref z], []⟩)) _ _ s
  refine wpAny_bind (wpAny_newObj_type ?_)
  refine wpAny_pure ⟨plainId_quiet F.plain_list_iadd _, codeAny_builtin F.entry_list_iadd ?_⟩
  rw [Around.under_plainId F.plain_list_iadd _]
  have hz1 : IsZip (s.heap.push { cls := .type "list", data := .seq ([] : List Value).toArray }) z TI TO .none := Heap.get?_push_of_some _ hz
  have hT : ({ s with heap := s.heap.push { cls := .type "list", data := .seq ([] : List Value).toArray } } : Shared).TypeIs (.ref z) "zip" := ⟨_, hz1, rfl⟩
  show wpAny _ A.in1 (Builtin.List.listExtendWith (.ref s.heap.objs.size) (.ref z) (.ref s.heap.objs.size)) _ _ _
  unfold Builtin.List.listExtendWith
  refine wpAny_bind (wpAny_typeOf hT ?_)
  have h1' : Builtin.List.listSameRef (.ref s.heap.objs.size) (.ref z) = false := by simp [Builtin.List.listSameRef, hSI]
  have h2' : (Value.type "zip" == Value.type "list") = false := by decide
  have h3' : (Value.type "zip" == Value.type "tuple") = false := by decide
  simp only [h1', h2', h3', Bool.or_false, Bool.false_eq_true, if_false]
  refine wpAny_bind (wpAny_pyIter_zip hz1 ?_)
  refine wpAny_bind (wpAny_holding ?_)
  unfold Builtin.List.listLengthHint
  refine wpAny_bind (wpAny_specialOf hT zip_nolen ?_)
  show wpAny _ A.in1 (specialOf (Value.ref z) (Str.ofString "__length_hint__") >>= _) _ _ _
  refine wpAny_bind (wpAny_specialOf hT zip_nohint ?_)
  refine wpAny_pure ?_
  show wpAny _ A.in1 (rule "list.extend.makes-room" >>= fun _ => Builtin.List.listTouch (.ref s.heap.objs.size) >>= fun _ =>
    again (.builtin "list.extend.loop" ⟨[.ref s.heap.objs.size, .ref z, .ref s.heap.objs.size], []⟩)) _ _ _
  refine wpAny_bind (wpAny_rule ?_)
  have hS₁ : (s.heap.push { cls := .type "list", data := .seq ([] : List Value).toArray }).get? s.heap.objs.size = some { cls := .type "list", data := .seq ([] : List Value).toArray } := Heap.get?_push_size _ rfl
  refine wpAny_bind ?_
  show wpAny _ A.in1 (updateSeq s.heap.objs.size (·.push .none) >>= fun _ => updateSeq s.heap.objs.size (·.pop)) _ _ _
  refine wpAny_bind (wpAny_updateSeq hS₁ rfl ?_)
  have hS₂ := Heap.get?_update_self (Obj.mapSeq (·.push Value.none)) hS₁ rfl
  refine wpAny_updateSeq hS₂ rfl ?_
  have hS₃ := Heap.get?_update_self (Obj.mapSeq (·.pop)) hS₂ rfl
  have oth : ∀ b o, b ≠ s.heap.objs.size → s.heap.get? b = some o →
      (((s.heap.push { cls := .type "list", data := .seq ([] : List Value).toArray }).update s.heap.objs.size (Obj.mapSeq (·.push Value.none))).update s.heap.objs.size (Obj.mapSeq (·.pop))).get? b = some o :=
    fun b o hb e => (Heap.get?_update_other _ _ (Ne.symm hb)).trans ((Heap.get?_update_other _ _ (Ne.symm hb)).trans (Heap.get?_push_of_some _ e))
  refine wpAny_pure ⟨plainId_quiet F.plain_extend_loop _, extend_zip (h0 := s.heap) (n0 := s.heap.objs.size) D hh same fit hS _ xs.size 0 _ [] _ (by omega) (by omega) rfl (Nat.le_of_lt (Heap.lt_size hS₃))
    ⟨fun j t e => by simp at e, fun t ht => (List.not_mem_nil ht).elim, List.nodup_nil, fun c o hc e => oth c o (fun q => hc (by rw [q]; simp)) e⟩ (.inl (oth _ _ (Nat.ne_of_lt nz) hz)) (oth _ _ (Nat.ne_of_lt nTI) hTI) ⟨a, b, oth _ _ (Nat.ne_of_lt nTO) hTO⟩
    (h1.at fun o e => oth _ _ (Nat.ne_of_lt ni1) e) (h2.at fun o e => oth _ _ (Nat.ne_of_lt ni2) e) (hl1.at fun o e => oth _ _ (Nat.ne_of_lt nl1) e) (hl2.at fun o e => oth _ _ (Nat.ne_of_lt nl2) e) hS₃ fun h' us c' r1 r2 r3 => ?_⟩
  show wpAny _ A (load s.heap.objs.size >>= _) _ _ _
  refine wpAny_bind (wpAny_load r3 ?_)
  refine wpAny_pure ?_
  have := hQ h' us r1 r2
  simpa using this
theorem code_tuple_new_zip {z TI TO i1 i2 l1 l2 : Addr} {xs ys : Array Value} {a b : Value} {Q₁ : Value → Shared → Prop} (hh : A.handled = none) (D : ZipApart z TI TO i1 i2 l1 l2) (same : xs.size = ys.size) (fit : xs.size ≤ sizeLine)
    (hz : IsZip s.heap z TI TO .none) (hTI : IsPair s.heap TI (.ref i1) (.ref i2)) (hTO : IsPair s.heap TO a b) (h1 : s.heap.IsListIter i1 l1 0) (h2 : s.heap.IsListIter i2 l2 0) (hl1 : s.heap.IsList l1 xs) (hl2 : s.heap.IsList l2 ys)
    (hQ : ∀ (h' : Heap) (us : List Addr), us.length = xs.size → Gave s.heap h' s.heap.objs.size [z, TO, i1, i2, s.heap.objs.size] xs ys us → Q₁ (.ref h'.objs.size) { s with heap := h'.push { cls := .type "tuple", data := .seq (us.map Value.ref).toArray } }) :
    codeAny (model prog w) A (.call (.builtin "tuple.__new__") ⟨[.type "tuple", .ref z], []⟩) (wants Q₁ E) s := by
  refine codeAny_of_tree ?_
  show wpAny _ A.in1 (do checkBuiltinCall "tuple.__new__" ⟨[.type "tuple", .ref z], []⟩; again (.builtin "tuple.__new__" ⟨[.type "tuple", .ref z], []⟩)) _ _ s
  refine wpAny_bind (wpAny_of_eq (F.newCall_tuple_1 _) (wpAny_pure ⟨plainId_quiet F.plain_tuple_new _, codeAny_builtin F.entry_tuple_new ?_⟩))
  rw [Around.under_plainId F.plain_tuple_new _]
  have hsub := sub_tuple_self
  have hinit := init_tuple_lookup
  have hmh := madeHere_tuple
  have hTz : s.TypeIs (.ref z) "zip" := ⟨_, hz, rfl⟩
  have hh1 : A.in1.handled = none := hh
  wp_walk using wpAny_typeOf hTz, collect_zip (A := A.in1) hh1 D same fit hz hTI hTO h1 h2 hl1 hl2
  intro h' us ul g
  show wpAny _ _ (Builtin.Tuple.tupleExact (us.map Value.ref).toArray >>= fun v => ret v) _ _ _
  unfold Builtin.Tuple.tupleExact
  refine wpAny_bind (wpAny_newObj_type ?_ (by show (us.map Value.ref).toArray.size ≤ sizeLine; simp only [List.size_toArray, List.length_map]; omega))
  exact wpAny_pure (hQ h' us ul g)
theorem call_tuple_zip {z TI TO i1 i2 l1 l2 : Addr} {xs ys : Array Value} {a b : Value} {Q : Value → Shared → Prop} (hh : A.handled = none) (D : ZipApart z TI TO i1 i2 l1 l2) (same : xs.size = ys.size) (fit : xs.size ≤ sizeLine)
    (hz : IsZip s.heap z TI TO .none) (hTI : IsPair s.heap TI (.ref i1) (.ref i2)) (hTO : IsPair s.heap TO a b) (h1 : s.heap.IsListIter i1 l1 0) (h2 : s.heap.IsListIter i2 l2 0) (hl1 : s.heap.IsList l1 xs) (hl2 : s.heap.IsList l2 ys)
    (hQ : ∀ (h' : Heap) (us : List Addr), us.length = xs.size → Gave s.heap h' s.heap.objs.size [z, TO, i1, i2, s.heap.objs.size] xs ys us → Q (.ref h'.objs.size) { s with heap := h'.push { cls := .type "tuple", data := .seq (us.map Value.ref).toArray } }) :
    wpAny (model prog w) A (call (.type "tuple") [.ref z]) Q E s := by
  refine callType_codes (Q₁ := fun obj s₁ => s₁.TypeIs obj "tuple" ∧ Q obj s₁) F.called_tuple (F.typeCall_tuple_1 _) F.entry_object_init
    (code_tuple_new_zip (A := A.in1) hh D same fit hz hTI hTO h1 h2 hl1 hl2 fun h' us ul g => ⟨⟨_, Heap.get?_push_size _ rfl, rfl⟩, hQ h' us ul g⟩) fun obj s₁ h₁ => ?_
  exact ⟨h₁.1, F.args_object_init_2 obj _, object_init_meets F.called_tuple.init.lookup F.called_tuple.made (by decide) prog w A.in1 _ s₁ ⟨h₁.1, rfl, h₁.2⟩⟩
end
theorem paired_by {α β : Type} {R : α → β → Prop} : ∀ {as : List α} {bs : List β}, as.length = bs.length → (∀ (i : Nat) a b, as[i]? = some a → bs[i]? = some b → R a b) → Paired R as bs
  | [], [], _, _ => .nil
  | a :: as, b :: bs, l, h => .cons (h 0 a b rfl rfl) (paired_by (by simpa using l) fun i x y e1 e2 => h (i + 1) x y e1 e2)
  | [], _ :: _, l, _ => by simp at l
  | _ :: _, [], l, _ => by simp at l
theorem paired_mem {α β : Type} {F G : α → β → Prop} : ∀ {l : List α} {m : List β}, (∀ a ∈ l, ∀ b, F a b → G a b) → Paired F l m → Paired G l m
  | _, _, _, .nil => .nil
  | _, _, h, .cons x r => .cons (h _ (List.mem_cons_self ..) _ x) (paired_mem (fun a ha => h a (List.mem_cons_of_mem _ ha)) r)
section
variable {X : Cx} {pins : List (Addr × Obj)} {σ : L2.St} {H : Hp} {s : Shared}
theorem lay_pairs {h' : Heap} (I : L2.Inv X pins σ H s) (kp : ∀ c o, s.heap.get? c = some o → h'.get? c = some o) : ∀ {ts : List Addr} {xys : List (V × V)}, Paired (fun t xy => ∃ u v, RelV xy.1 u ∧ RelV xy.2 v ∧ IsPair h' t u v) ts xys → ts.Nodup → (∀ t ∈ ts, s.heap.objs.size ≤ t) →
    ∃ (H' : Hp) (G : Heap), L2.Inv X pins σ H' { s with heap := G } ∧ (∀ c, c ∉ ts → H' c = H c) ∧ Paired (fun t xy => H' t = some (.tup [xy.1, xy.2])) ts xys ∧ (∀ c o, G.get? c = some o → h'.get? c = some o) ∧ ∀ c o, G.get? c = some o → (∃ o, s.heap.get? c = some o) ∨ c ∈ ts
  | _, _, .nil, _, _ => ⟨H, s.heap, I, fun _ _ => rfl, .nil, kp, fun c o e => .inl ⟨o, e⟩⟩
  | t :: ts, xy :: xys, .cons ⟨u, v, ru, rv, hp⟩ r, nd, low => by
    obtain ⟨nt, nd'⟩ := List.nodup_cons.mp nd
    obtain ⟨H', G, I', e1, e2, e3, e4⟩ := lay_pairs I kp r nd' fun z hz => low z (List.mem_cons_of_mem _ hz)
    obtain ⟨G', g1, g2⟩ := restrict h' fun c => (G.get? c).isSome || c == t
    have lt := low t (List.mem_cons_self ..)
    have gn : G.get? t = none := by
      cases e : G.get? t with
      | none => rfl
      | some o =>
        rcases e4 t o e with ⟨o', z⟩ | z
        · exact absurd (Heap.lt_size z) (Nat.not_lt.mpr lt)
        · exact absurd z nt
    have hn : H' t = none := by
      rw [e1 t nt]
      exact I.hok.fresh lt
    have gG : ∀ c o, G.get? c = some o → G'.get? c = some o := fun c o e => by
      rw [g1 c (by simp [e])]
      exact e3 c o e
    have gt : G'.get? t = some { cls := .type "tuple", data := .seq #[u, v] } := by
      rw [g1 t (by simp)]
      exact hp
    have line : sizeLine = 16777216 := sizeLine_eq
    refine ⟨upd H' t (.tup [xy.1, xy.2]), G', I'.laidN (t' := s.toks) gG gn hn ⟨(by show 2 ≤ sizeLine; omega), [u, v], .cons ru (.cons rv .nil), ⟨_, gt, rfl, _, rfl⟩⟩, fun c hc => ?_, .cons upd_same (paired_mem (fun a ha b e => (upd_ne fun z => nt (by rw [← z]; exact ha)).trans e) e2), fun c o e => ?_, fun c o e => ?_⟩
    · rw [upd_ne fun z => hc (by rw [z]; exact List.mem_cons_self ..)]
      exact e1 c fun z => hc (List.mem_cons_of_mem _ z)
    · by_cases hc : ((G.get? c).isSome || c == t) = true
      · rw [g1 c hc] at e
        exact e
      · rw [g2 c (by simpa using hc)] at e
        cases e
    · by_cases hc : ((G.get? c).isSome || c == t) = true
      · rw [Bool.or_eq_true] at hc
        rcases hc with hc | hc
        · obtain ⟨o', ho⟩ := Option.isSome_iff_exists.mp hc
          rcases e4 c o' ho with z | z
          · exact .inl z
          · exact .inr (List.mem_cons_of_mem _ z)
        · exact .inr (by rw [eq_of_beq hc]; exact List.mem_cons_self ..)
      · rw [g2 c (by simpa using hc)] at e
        cases e
end
section
variable {X : Cx} {e e2 : Expr} {ta : L2.TA} {p p2 pos pos2 : Pos}
def tTupZip (K : PySem.W.Frag) (ta : L2.TA) : L2.TE := fun σ H Q => ta σ H fun vs H1 => ∃ (a b : Addr) (xs ys : List V), vs = [.ref a, .ref b] ∧ SqL K H1 a xs ∧ SqL K H1 b ys ∧ xs.length = ys.length ∧
  ∀ (q : Addr) (o : Obj) (ps : List Addr) (H2 : Hp), Same H1 H2 → H1 q = none → o.dict = none → H2 q = some (.frz o (.tup (ps.map V.ref))) → Paired (fun t xy => H2 t = some (.tup [xy.1, xy.2])) ps (xs.zip ys) → Q (.ref q) H2
theorem pe_tupZip (hc : X.calm = true) (hg : Gl X "tuple") (hm : X.mg "tuple" = none) (hg2 : Gl X "zip") (hm2 : X.mg "zip" = none) (ha : L2.PA X [e, e2] ta) (hbt : PySem.bootBuiltins "tuple" = some (.type "tuple") := by decide +kernel)
    (hs : starEach [e, e2] X.env = (false, eval e X.env) :: starEach [e2] X.env := by rfl) (hpl : (backTo pos2 (starEach [e2] X.env)).any (·.1) = false := by rfl)
    (na : starEach [Expr.Call (.Name "zip" p2) [e, e2] [] pos2] X.env = (false, eval (Expr.Call (.Name "zip" p2) [e, e2] [] pos2) X.env) :: starEach [] X.env := by rfl) :
    L2.PE X (.Call (.Name "tuple" p) [.Call (.Name "zip" p2) [e, e2] [] pos2] [] pos) (tTupZip X.K ta) := by
  refine ⟨fun pins s σ H Q I h => ?_⟩
  refine Call_ (ld_blt I hg hm hbt (PyProof.Rows.callWith_type1 (args_cons ?_ na) na))
  refine Call_ (ld_blt I hg2 hm2 PyProof.Rows.boot_zip (PyProof.Rows.callWith_type1 (thn (ha.run pos2 pins s σ H _ I h) fun us s1 ⟨vs, H1, I1, r1, a, b, xs, ys, ex, hx, hy, len, q⟩ => ?_) hs hpl))
  subst ex
  obtain ⟨u1, u2, rfl, ra, rb⟩ := vals2 r1
  cases ra
  cases rb
  obtain ⟨its, rv, pa, za⟩ := I1.list hx
  obtain ⟨its2, rv2, pb, _⟩ := I1.list hy
  refine call_zip_2 pa.isList pb.isList fun h' hz hTI hTO h1 h2 hsz keep => args_nil ?_
  have l1 := rv.length
  have l2 := rv2.length
  refine call_tuple_zip (s := { s1 with heap := h' }) (I1.ok.hd hc) (PySem.W.ktu_apart s1.heap.objs.size a b pa.lt pb.lt) (by simp only [List.size_toArray]; omega) (by simp only [List.size_toArray]; omega) hz hTI hTO h1 h2 (pa.isList.at fun o e => keep _ o e) (pb.isList.at fun o e => keep _ o e) fun h3 ts tl g => ?_
  simp only [List.size_toArray] at tl
  have ex : ∀ c o, s1.heap.get? c = some o → c ∉ [s1.heap.objs.size + 4, s1.heap.objs.size + 3, s1.heap.objs.size, s1.heap.objs.size + 1, h'.objs.size] := fun c o e => by
    have lt := Heap.lt_size e
    have hsz' : h'.objs.size = s1.heap.objs.size + 5 := hsz
    simp only [List.mem_cons, List.not_mem_nil, or_false, not_or]
    refine ⟨fun z => ?_, fun z => ?_, fun z => ?_, fun z => ?_, fun z => ?_⟩
    · exact Nat.not_lt.mpr (Nat.le_add_right _ _) (z ▸ lt)
    · exact Nat.not_lt.mpr (Nat.le_add_right _ _) (z ▸ lt)
    · exact Nat.lt_irrefl _ (z ▸ lt)
    · exact Nat.not_lt.mpr (Nat.le_add_right _ _) (z ▸ lt)
    · rw [z, hsz'] at lt
      exact Nat.not_lt.mpr (Nat.le_add_right _ _) lt
  have kp : ∀ c o, s1.heap.get? c = some o → h3.get? c = some o := fun c o e => g.kp c o (ex c o e) (keep c o e)
  have prs : Paired (fun t xy => ∃ u v, RelV xy.1 u ∧ RelV xy.2 v ∧ IsPair h3 t u v) ts (xs.zip ys) := paired_by (by rw [List.length_zip]; omega) fun i t xy e1 e2 => by
    obtain ⟨x, y, f1, f2, f3⟩ := g.prs i t e1
    obtain ⟨g1, g2⟩ := List.getElem?_zip_eq_some.mp e2
    obtain ⟨u, hu, ru⟩ := rv.get g1
    obtain ⟨v, hv, rv'⟩ := rv2.get g2
    rw [List.getElem?_toArray, hu] at f1
    rw [List.getElem?_toArray, hv] at f2
    cases f1
    cases f2
    exact ⟨_, _, ru, rv', f3⟩
  have low : ∀ t ∈ ts, s1.heap.objs.size ≤ t := fun t ht => by
    have := (g.low t ht).1
    have hsz' : h'.objs.size = s1.heap.objs.size + 5 := hsz
    have this' : h'.objs.size ≤ t := this
    omega
  obtain ⟨H2, G, I2, d1, d2, d3, d4⟩ := lay_pairs I1 kp prs g.nd low
  have big : s1.heap.objs.size ≤ h3.objs.size := by
    have hsz' : h'.objs.size = s1.heap.objs.size + 5 := hsz
    have e := g.kp (s1.heap.objs.size + 2) _ (fun z => by
      simp only [List.mem_cons, List.not_mem_nil, or_false] at z
      rcases z with z | z | z | z | z
      · exact absurd (Nat.add_left_cancel z) (by decide)
      · exact absurd (Nat.add_left_cancel z) (by decide)
      · exact Nat.ne_of_gt (Nat.lt_add_of_pos_right (by decide)) z
      · exact absurd (Nat.add_left_cancel z) (by decide)
      · exact absurd (Nat.add_left_cancel (z.trans hsz')) (by decide)) hTI
    exact Nat.le_of_lt (Nat.lt_of_le_of_lt (Nat.le_add_right _ _) (Heap.lt_size e))
  have gn : G.get? h3.objs.size = none := by
    cases e : G.get? h3.objs.size with
    | none => rfl
    | some o => exact absurd (Heap.lt_size (d3 _ o e)) (Nat.lt_irrefl _)
  have tn : h3.objs.size ∉ ts := fun z => Nat.lt_irrefl _ (g.low _ z).2.1
  have nH : H1 h3.objs.size = none := I1.hok.fresh big
  have hn : H2 h3.objs.size = none := by
    rw [d1 _ tn]
    exact nH
  have sm : Same H1 H2 := fun c o e => by
    rw [d1 c fun z => ?_]
    · exact e
    · have := I1.hok.fresh (low c z)
      rw [this] at e
      cases e
  have refs : Vals (ts.map V.ref) (ts.map Value.ref) := by
    generalize ts = l
    induction l with
    | nil => exact .nil
    | cons x l ih => exact .cons rfl ih
  refine ⟨.ref h3.objs.size, upd H2 h3.objs.size (.frz { cls := .type "tuple", data := .seq (ts.map Value.ref).toArray } (.tup (ts.map V.ref))), I2.laidN (t' := s1.toks) (fun c o e => Heap.get?_push_of_some _ (d3 c o e)) gn hn ⟨Heap.get?_push_size _ rfl, by rw [List.length_map]; omega, _, refs, IsTup.new _ _⟩, rfl, q _ _ ts _ (fun c o e => (upd_ne (ne_of_none (sm c o e) hn)).trans (sm c o e)) nH rfl upd_same (Paired.mapP d2 fun t xy e => (upd_ne (ne_of_none e hn)).trans e)⟩
end
end Mine

set_option Elab.async false
set_option linter.all false
set_option maxRecDepth 100000
set_option maxHeartbeats 4000000
/-! xs[::2], xs[1::2] of a list. -/
namespace Mine
open PySem PySem.Spec PyProof.Rows L2
theorem vals_places : ∀ {xs : List V} {us : List Value}, Vals xs us → ∀ js : List Nat, Vals (js.filterMap (xs[·]?)) (js.filterMap (us[·]?))
  | _, _, _, [] => .nil
  | xs, us, h, j :: js => by
    have ih := vals_places h js
    cases hn : xs[j]? with
    | some n =>
      obtain ⟨u, hv, ru⟩ := h.get hn
      simp only [List.filterMap_cons, hn, hv]
      exact .cons ru ih
    | none =>
      have hv : us[j]? = none := by
        rw [List.getElem?_eq_none_iff] at hn ⊢
        rw [← h.length]
        exact hn
      simp only [List.filterMap_cons, hn, hv]
      exact ih
def at2 (lo : Option Int) (xs : List V) : List V := (sliceRange (sliceBounds lo none (some 2) xs.length).1 (sliceBounds lo none (some 2) xs.length).2.1 (sliceBounds lo none (some 2) xs.length).2.2).filterMap (xs[·]?)
def tSl2 (K : PySem.W.Frag) (te : TE) (tl : TO) : TE := fun σ H Q => te σ H fun x H1 => tl σ H1 fun o H2 => ∃ a xs, x = .ref a ∧ SqL K H2 a xs ∧ ∀ p, H2 p = none → Q (.ref p) (upd H2 p (.lst (at2 o xs)))
section
variable {X : Cx}
theorem pe_sl2 {e : Expr} {lo : Option Expr} {te : TE} {tl : TO} {k : Nat} {p1 p2 pos : Pos} (he : PE X e te) (hl : PO X lo tl) : PE X (.Subscript e (.Slice lo none (some (.Constant (.int 2) k p1)) p2) pos) (tSl2 X.K te tl) := by
  refine ⟨fun pins s σ H Q I h => ?_⟩
  refine Subscript_ (thn (he.run pins s σ H _ I h) fun v s1 ⟨x, H1, I1, r1, q1⟩ => ?_)
  have hst : PO X (some (.Constant (.int 2) k p1)) (tPart (tC (.int 2))) := po_some pe_int
  refine wpAny_Slice (thn (hl.run pins s1 σ H1 _ I1 q1) fun vl s2 ⟨l, H2, I2, pl, q2⟩ => ?_)
  refine thn (po_none.run pins s2 σ H2 (fun o H3 => o = none ∧ H3 = H2) I2 ⟨rfl, rfl⟩) fun vu s3 ⟨u, H3, I3, pu, eu, e3⟩ => ?_
  subst eu e3
  refine thn (hst.run pins s3 σ H3 (fun o H4 => o = some 2 ∧ H4 = H3) I3 ⟨2, rfl, rfl, rfl⟩) fun vs s4 ⟨o, H4, I4, ps, eo, e4⟩ => ?_
  subst eo e4
  obtain ⟨a, xs, ex, hx, q⟩ := q2
  subst ex
  cases r1
  have I5 : L2.Inv X pins σ H4 { s4 with heap := s4.heap.push { cls := .type "slice", data := .fields #[vl, vu, vs] } } := I4.kept (t' := s4.toks) fun b ob q => Heap.get?_push_of_some _ q
  obtain ⟨its, r, ht, hz⟩ := I5.list hx
  have hlen := r.length
  show wpAny (model X.prog X.w) X.A (subscriptTail e (.Slice lo none (some (.Constant (.int 2) k p1)) p2) (.ref a) (.ref s4.heap.objs.size)) (EP X pins σ Q) X.xe { s4 with heap := s4.heap.push { cls := .type "slice", data := .fields #[vl, vu, vs] } }
  refine tail_any (ops := [.ref a, .ref s4.heap.objs.size]) ht.isList.typeIs (PySem.slot_list_getitem.lookup) ?_ (by with_unfolding_all rfl)
  refine wpAny_getItem_list_slice ht.isList (Heap.IsSliceOf.new _ vl vu vs) pl pu ps (by decide) ?_ (by rw [List.size_toArray]; omega)
  have e : slicePick its.toArray l none (some 2) = ((sliceRange (sliceBounds l none (some 2) xs.length).1 (sliceBounds l none (some 2) xs.length).2.1 (sliceBounds l none (some 2) xs.length).2.2).filterMap (its[·]?)).toArray := by
    simp [slicePick, hlen]
  have sz := slicePick_size_le its.toArray l none (some 2)
  rw [e] at sz ⊢
  have rr := vals_places r (sliceRange (sliceBounds l none (some 2) xs.length).1 (sliceBounds l none (some 2) xs.length).2.1 (sliceBounds l none (some 2) xs.length).2.2)
  refine ⟨.ref _, _, I5.laid (t' := s4.toks) (o := .lst (at2 l xs)) (fun b ob q => Heap.get?_push_of_some _ q) (Nat.le_refl _) ?_, rfl, q _ (I5.hok.fresh (Nat.le_refl _))⟩
  have l2 := rr.length
  simp only [List.size_toArray] at sz
  exact ⟨by show (at2 l xs).length ≤ sizeLine; unfold at2; omega, _, 0, rr, Heap.get?_push_size _ rfl⟩
end
end Mine

set_option Elab.async false
set_option linter.all false
set_option maxRecDepth 100000
set_option maxHeartbeats 4000000
/-! for i, c in enumerate(text); xs[b:] = [x]. -/
namespace Mine
open PySem PySem.Spec PyProof.Rows L2
/-- sign i of a text, numbered, in a new pair -/
def IteT (x : Str) : It where
  go := fun i _ => i < x.cps.size
  yld := fun i H v H' => ∃ T c, v = .ref T ∧ H T = none ∧ H' = upd H T (.tup [.int (i : Nat), .str ⟨#[c]⟩]) ∧ x.cps[i]? = some c
  stop := fun i _ => x.cps.size ≤ i
def EnT (x : Str) (t : Tok) (e it : Addr) (i : Nat) (h : Heap) : Prop := (∃ old, IsEnum h e it ((i : Nat) : Int) old) ∧ h.IsStrIter it (strIterType x) x t i ∧ e ≠ it
theorem EnT.to {x : Str} {t : Tok} {e it : Addr} {i : Nat} {h h' : Heap} (y : EnT x t e it i h) (ke : ∀ o, h.get? e = some o → h'.get? e = some o) (ki : ∀ o, h.get? it = some o → h'.get? it = some o) : EnT x t e it i h' := by
  obtain ⟨⟨old, he⟩, hi, n⟩ := y
  obtain ⟨o, ho, r⟩ := hi
  exact ⟨⟨old, ke _ he⟩, ⟨o, ki o ho, r⟩, n⟩
theorem enumT_over {P : Program} {w : World} {A : Around} {E : Value → Shared → Prop} {s : Shared} {e it : Addr} {i : Nat} {c : Int} {x : Str} {t : Tok} {old : Value} {Q : Option Value → Shared → Prop} (hd : A.handled = none)
    (ob : IsEnum s.heap e it c old) (at_ : s.heap.IsStrIter it (strIterType x) x t i) (nx : x.cps[i]? = none) (go : ∀ h', Heap.ExtBut it s.heap h' → Q none { s with heap := h' }) :
    wpAny (model P w) A (pyNext (.ref e)) Q E s := by
  unfold pyNext
  have ty : s.TypeIs (.ref e) "enumerate" := ⟨_, ob, rfl⟩
  have fin : ∀ {Q : Value → Shared → Prop} {E' : Value → Shared → Prop}, (∀ h' e, Heap.ExtBut it s.heap h' → (∃ o, h'.get? e = some o ∧ o.cls = .type "StopIteration") → E' (.ref e) { s with heap := h' }) → wpAny (model P w) A.in1 (Builtin.SmallTypes.nextOf (.ref it)) Q E' s := by
    intro Q E' h
    cases ha : x.cps.all (· < 128)
    · simp only [strIterType, ha, Bool.false_eq_true, if_false] at at_
      exact wpAny_nextOf_wide_end hd at_ nx h
    · simp only [strIterType, ha, if_true] at at_
      exact wpAny_nextOf_ascii_end hd at_ nx h
  refine wpAny_bind (wpAny_attempt (wpAny_callSpecial?_slot (name := Str.ofString "__next__") ty F.slot_enumerate_next (wpAny_call_entry F.slot_enumerate_next ty F.entry_enumerate_next ?q1 (F.args_enumerate_next_1 _))))
  case q1 =>
    show wpAny _ _ (field (.ref e) 2 >>= _) _ _ _
    refine wpAny_bind (wpAny_field ob rfl (x := .ref it) rfl (wpAny_bind (fin fun h' z eb hz => ?_)))
    obtain ⟨oz, gz, cz⟩ := hz
    exact wpAny_bind (wpAny_isInstance (T := "StopIteration") (b := true) ⟨oz, gz, cz⟩ isSubtype_stop (wpAny_pure (go _ eb)))
theorem turn_enumT {P : Program} {w : World} {K : PySem.W.Frag} {elts : List Expr} {kk : Nat} {tpos : Pos} (x : Str) (t : Tok) (e it : Addr) : Turn P w K (.Tuple elts kk tpos) (IteT x) [e, it] e (EnT x t e it) := by
  refine { mem := List.mem_cons_self .., obj := ?ob, keep := fun i h h' y k => y.to (k e (by simp)) (k it (by simp)), item := ?nx, done := ?en, self := fun A i s Q E y h => wpAny_pyIter_enum y.1.choose_spec h }
  case ob =>
    intro i h y b hb
    obtain ⟨⟨old, he⟩, ⟨o, ho, _, hd⟩, _⟩ := y
    rcases two_of hb with rfl | rfl
    · exact ⟨_, he, fun _ q => nomatch q⟩
    · refine ⟨o, ho, fun v q => ?_⟩
      rw [hd] at q
      cases q
  case nx =>
    rintro X rfl rfl rfl hc i pins s σ H E I hf ⟨⟨old, he⟩, hit, hne⟩ hi
    have le : e < s.heap.objs.size := Heap.lt_size he
    have li : it < s.heap.objs.size := Heap.lt_size hit.choose_spec.1
    have D := Draws.text (prog := X.prog) (w := X.w) (A := X.A.in1) (I.ok.hd hc) it x t
    refine wpAny_pyNext_enum_itemC D he hit hi hne (by simp [hne]) fun z h1 tk hz out st1 tup _ kp => ?_
    obtain ⟨c, u, hc', rfl⟩ := hz
    refine ⟨_, rfl, wpAny_letOwnedTupleGo_enum (s := { s with heap := h1, toks := tk + 1 }) out fun h2 he2 sb => ?_⟩
    have ob : ObjOk X.prog X.w (upd H s.heap.objs.size (.tup [.int (i : Nat), .str ⟨#[c]⟩])) h2 s.heap.objs.size (.tup [.int (i : Nat), .str ⟨#[c]⟩]) := by
      refine ⟨(by show 2 ≤ sizeLine; decide), [.int (i : Nat) tk, .str ⟨#[c]⟩ u], .cons ⟨_, rfl⟩ (.cons ⟨_, rfl⟩ .nil), _, (sb.2 _ (Nat.ne_of_gt le)).trans tup, rfl, _, rfl⟩
    refine ⟨.ref s.heap.objs.size, _, I.turnedNew (t' := tk + 1) (ch := [e, it]) (fun b o hb g => (sb.2 b (off_two hb).1).trans (kp b o (off_two hb).1 (off_two hb).2 g)) hf (Nat.le_refl _) ob, rfl,
      ⟨_, c, rfl, I.hok.fresh (Nat.le_refl _), rfl, hc'⟩, ⟨⟨.str ⟨#[c]⟩ u, ?_⟩, (by obtain ⟨o, ho, r⟩ := st1; exact ⟨o, (sb.2 it (Ne.symm hne)).trans ho, r⟩), hne⟩, fun b hb => ?_⟩
    · rw [show ((i + 1 : Nat) : Int) = (i : Int) + 1 by omega]
      exact he2
    · have lb : b < s.heap.objs.size := (two_of hb).elim (fun z => z ▸ le) fun z => z ▸ li
      exact (upd_ne (Nat.ne_of_lt lb)).trans (hf b hb).1
  case en =>
    rintro X rfl rfl rfl hc i pins s σ H E I hf ⟨⟨old, he⟩, hit, _⟩ hi
    obtain ⟨f0, f1, _, f3, f4, f5⟩ := hf it (by simp)
    exact enumT_over (I.ok.hd hc) he hit (Array.getElem?_eq_none hi) fun h' eb => ⟨rfl, I.turned (t' := s.toks) (fun b o hb g => eb b o hb g) f0 f1 f3 f4 f5⟩
section
variable {X : Cx} {elts : List Expr} {kk : Nat} {p pos tpos : Pos} {e : Expr} {te : TA}
def iEnumT (te : TA) : TI := fun σ H R => te σ H fun vs H1 => ∃ x, vs = [.str x] ∧ R (IteT x) H1
theorem pi_enumT (hg : Gl X "enumerate") (hm : X.mg "enumerate" = none) (ha : PA X [e] te) (hs : starEach [e] X.env = [(false, eval e X.env)] := by rfl) :
    PI X (.Tuple elts kk tpos) (.Call (.Name "enumerate" p) [e] [] pos) (iEnumT te) := by
  refine ⟨fun pins s σ H R I h => ?_⟩
  refine Call_ (ld_blt I hg hm boot_enumerate (PyProof.Rows.callWith_type1 (thn (ha.run pos pins s σ H _ I h) fun us s1 ⟨vs, H1, I1, r1, q1⟩ => ?_) hs rfl))
  obtain ⟨x, ex, q⟩ := q1
  subst ex
  obtain ⟨u, rfl, r⟩ := vals1 r1
  obtain ⟨t, rfl⟩ := r
  refine call_enumerate_str fun h' he hit hsz hkp => wpAny_pyIter_enum he ?_
  have I3 : L2.Inv X pins σ H1 { s1 with heap := h' } := I1.kept (t' := s1.toks) hkp
  refine ⟨s1.heap.objs.size + 1, [s1.heap.objs.size + 1, s1.heap.objs.size], _, _, H1, rfl, I3, turn_enumT x t (s1.heap.objs.size + 1) s1.heap.objs.size, ⟨⟨.none, he⟩, hit, Nat.succ_ne_self _⟩, fun b hb => ?_, q⟩
  have hle : s1.heap.objs.size ≤ b := by
    have e' : b = s1.heap.objs.size + 1 ∨ b = s1.heap.objs.size := by simpa using hb
    rcases e' with z | z
    · rw [z]; exact Nat.le_add_right _ _
    · rw [z]; exact Nat.le_refl _
  exact I1.fpOk hle (I1.hok.fresh hle)
end
theorem walk_enumT {x : Str} : Walk (IteT x) x.cps.size (fun _ => True) (fun i H v H' => ∃ T c, v = .ref T ∧ H T = none ∧ H' = upd H T (.tup [.int (i : Nat), .str ⟨#[c]⟩]) ∧ x.cps[i]? = some c) :=
  ⟨fun _ _ hi _ => hi, fun _ _ => Nat.le_refl _, fun _ _ _ _ _ _ y => y⟩
end Mine

set_option Elab.async false
set_option linter.all false
set_option maxRecDepth 100000
set_option maxHeartbeats 4000000
/-! xs[b:] = ys, ys another list. -/
namespace Mine
open PySem PySem.Spec PyProof.Rows L2
theorem bounds_tail {a n : Nat} (h : a ≤ n) : sliceBounds (some (a : Int)) none none n = ((a : Int), (n : Int), 1) := by
  simp only [sliceBounds, Option.getD_none]
  have h1 : ¬ ((a : Int) < 0) := by omega
  simp only [h1, if_false, show (1 : Int) > 0 by decide, if_true]
  congr 1
  omega
section
variable {prog : Program} {w : World} {A : Around} {E : Value → Shared → Prop} {s : Shared}
theorem setTail {l b sl : Addr} {its new : Array Value} {n n2 : Nat} {vl vu : Value} {a : Nat} {Q : Unit → Shared → Prop}
    (e : s.heap.get? l = some { cls := .type "list", data := .seq its n }) (e2 : s.heap.get? b = some { cls := .type "list", data := .seq new n2 }) (hne : l ≠ b)
    (hs : s.heap.IsSliceOf sl vl vu .none) (pl : IsPart vl (some (a : Int))) (pu : IsPart vu none) (hac : a ≤ its.size) (hsz : its.size + new.size ≤ sizeLine)
    (h : Q () { s with heap := s.heap.update l (Obj.mapSeq fun xs => xs.extract 0 a ++ new ++ xs.extract its.size xs.size) }) : wpAny (model prog w) A (setItem (.ref l) (.ref sl) (.ref b)) Q E s := by
  have ll : s.heap.IsList l its := PySem.IsL.isList e
  have lb : s.heap.IsList b new := PySem.IsL.isList e2
  obtain ⟨os, h1, h2, h3⟩ := id hs
  have ty : s.TypeIs (.ref sl) "slice" := ⟨os, h1, h2⟩
  have two : Builtin.List.listSameRef (.ref l) (.ref b) = false := by
    unfold Builtin.List.listSameRef
    exact beq_eq_false_iff_ne.mpr hne
  have mx : (max (a : Int) (its.size : Int)).toNat = its.size := by omega
  have z1 : ((fun xs : Array Value => xs.extract 0 a ++ new ++ xs.extract its.size xs.size) its).size ≤ sizeLine + 1 := by
    simp only [Array.size_append, Array.size_extract]
    omega
  unfold setItem
  try with_reducible refine wpAny_holding ?_
  first | refine wpAny_bind (wpAny_pure ?_) | skip
  refine wpAny_bind (wpAny_sequenceKey ll.typeIs (by decide) ?_)
  refine wpAny_bind (wpAny_callSpecial?_slot (name := Str.ofString "__setitem__") ll.typeIs F.slot_list_setitem (wpAny_call_entry F.slot_list_setitem ll.typeIs F.entry_list_setitem ?q1 (F.args_list_setitem_3 _ _ _)))
  case q1 =>
    show wpAny _ _ (Builtin.List.listSubscript? (.ref sl) >>= _) _ _ s
    refine wpAny_bind ?_
    unfold Builtin.List.listSubscript?
    refine wpAny_bind (wpAny_specialOf ty slice_no_index ?_)
    simp only [Option.isNone_none, if_true]
    refine wpAny_pure ?_
    show wpAny _ _ (typeOf (.ref sl) >>= _) _ _ s
    refine wpAny_bind (wpAny_typeOf ty ?_)
    first
      | rw [if_neg (by decide)]
      | refine PySem.W.KFB.if_not (by decide) ?_
    rw [listSliceParts_eq]
    refine wpAny_bind (wpAny_bind (wpAny_field h1 h3 (x := .none) rfl (wpAny_bind (wpAny_listPart .none ?_))))
    rw [if_neg (show ¬ ((rawPart none == rawInt 0) = true) from Bool.false_ne_true)]
    refine wpAny_bind (wpAny_field h1 h3 (x := vl) rfl (wpAny_bind (wpAny_listPart pl ?_)))
    refine wpAny_bind (wpAny_field h1 h3 (x := vu) rfl (wpAny_bind (wpAny_listPart pu (wpAny_pure ?_))))
    first
      | simp only [two, Bool.false_eq_true, if_false]
      | refine PySem.W.KFB.if_not two ?_
      | (dsimp only
         rw [if_neg (by rw [two]; exact Bool.false_ne_true)])
    refine wpAny_bind (m := Builtin.List.listAllItems (.ref b) "must assign iterable to extended slice") ?_
    unfold Builtin.List.listAllItems
    refine wpAny_bind (wpAny_typeOf lb.typeIs ?_)
    first
      | refine PySem.W.KFB.if_so (by decide) ?_
      | rw [if_pos (by decide)]
    unfold Builtin.List.listItems
    refine wpAny_bind (wpAny_seqItems e2 rfl (wpAny_pure ?_))
    refine wpAny_bind (wpAny_bind (wpAny_seqItems e rfl (wpAny_pure ?_)))
    refine wpAny_bind (wpAny_of_eq ((sliceIndices_raw (some (a : Int)) none none its.size (by simp)).trans (congrArg (pure : Int × Int × Int → Sem (Int × Int × Int)) (bounds_tail hac))) ?_)
    show wpAny _ _ (if ((1 : Int) == 1) = true then _ else _) _ _ s
    rw [if_pos (by decide)]
    refine wpAny_bind (wpAny_rule ?_)
    first
      | simp only [notLongL hsz, Bool.false_eq_true, if_false]
      | refine PySem.W.KFB.if_not (notLongL hsz) ?_
    first | refine wpAny_bind (wpAny_pure ?_) | skip
    show wpAny _ _ (updateSeq l (fun xs => xs.extract 0 ((a : Int)).toNat ++ new ++ xs.extract (max (a : Int) (its.size : Int)).toNat xs.size) >>= _) _ _ s
    rw [mx, Int.toNat_natCast]
    refine wpAny_bind (wpAny_updateSeq (hz := Nat.le_trans (Nat.le_add_right _ _) hsz) (_hz' := z1) e rfl ?_)
    refine wpAny_bind (wpAny_letGo ?_)
    first
      | exact wpAny_bind (wpAny_pure (wpAny_pure ⟨.none, rfl, wpAny_pure h⟩))
      | exact wpAny_pure ⟨.none, rfl, wpAny_pure h⟩
end
section
variable {X : Cx}
def gTail (to ti : TE) : TG := fun v σ H Q => to σ H fun o H1 => tPart ti σ H1 fun i H2 => ∃ (l b : Addr) (c : Nat) (xs ys : List V), o = .ref l ∧ i = some (c : Int) ∧ v = .ref b ∧ H2 l = some (.lst xs) ∧ H2 b = some (.lst ys) ∧ l ≠ b ∧ c ≤ xs.length ∧ xs.length + ys.length ≤ sizeLine ∧ Q σ (upd H2 l (.lst (xs.take c ++ ys)))
theorem pg_tail {o i : Expr} {to ti : TE} {p2 pos : Pos} (ho : PE X o to) (hi : PE X i ti)
    (ha : ∀ v, assign (.Subscript o (.Slice (some i) none none p2) pos) X.env v = (do
      let ov ← holding [v] (eval o X.env)
      let iv ← holding [v, ov] (eval (.Slice (some i) none none p2) X.env)
      standAt pos
      holding [v, ov, iv] (setItem ov iv v)
      release [iv, v, ov] []) := by intro _; rfl) : PG X (.Subscript o (.Slice (some i) none none p2) pos) (gTail to ti) := by
  refine ⟨fun pins s σ H v u Q I r h => ?_⟩
  rw [ha]
  refine wpAny_bind (wpAny_holding (thn (ho.run pins s σ H _ I h) fun ov s1 ⟨x, H1, I1, r1, q1⟩ => ?_))
  refine wpAny_bind (wpAny_holding (wpAny_Slice (thn ((po_some hi).run pins s1 σ H1 _ I1 q1) fun vl s2 ⟨lo, H2, I2, pl, q2⟩ => ?_)))
  refine thn (po_none.run pins s2 σ H2 (fun o H3 => o = none ∧ H3 = H2) I2 ⟨rfl, rfl⟩) fun vu s3 ⟨hi', H3, I3, pu, e3, e4⟩ => ?_
  subst e3 e4
  refine thn (po_none.run pins s3 σ H3 (fun o H4 => o = none ∧ H4 = H3) I3 ⟨rfl, rfl⟩) fun vs s4 ⟨st, H4, I4, ps, e5, e6⟩ => ?_
  subst e5 e6
  cases ps
  obtain ⟨l, b, c, xs, ys, e1, e2, e3, hl, hb, ne, cl, fit, q⟩ := q2
  subst e1 e2 e3
  cases r1
  cases r
  have I5 : L2.Inv X pins σ H4 { s4 with heap := s4.heap.push { cls := .type "slice", data := .fields #[vl, vu, .none] } } := I4.kept (t' := s4.toks) fun b ob q => Heap.get?_push_of_some _ q
  obtain ⟨z, its, n, rx, pla, e⟩ := I5.lstM hl
  obtain ⟨z2, its2, n2, ry, plb, e'⟩ := I5.lstM hb
  have lx := rx.length
  have ly := ry.length
  refine wpAny_bind (wpAny_standAt (wpAny_bind (wpAny_holding ?_)))
  refine setTail (a := c) e e' ne (Heap.IsSliceOf.new _ vl vu .none) pl pu (by rw [List.size_toArray]; omega) (by rw [List.size_toArray, List.size_toArray]; omega) (wpAny_release ⟨σ, _, I5.lset (its' := its.take c ++ its2) (t' := s4.toks) hl e ?_ (Vals.append (rx.take _) ry) ?_, q⟩)
  · have z := splice_eq its its2 c its.toArray.size
    rw [List.size_toArray, List.drop_length, List.append_nil] at z
    exact z
  · rw [List.length_append, List.length_take]
    omega
end
end Mine

set_option Elab.async false
set_option linter.all false
set_option maxRecDepth 100000
set_option maxHeartbeats 4000000
/-! C.m(k1 = .., k2 = ..) of a classmethod with two parameters beside the class, named the other way round. -/
namespace Mine
open PySem PySem.Spec PyProof.Rows L2 ClX
section
variable {X : Cx} {k : Nat} {C p g : Addr} {mc : Value} {sp : L2.Sp} {fd : FuncData} {ps : List Str} {m k1 k2 : Str} {pos apos : Pos} {o : Expr} {kws : List Keyword} {ta : TE} {tk : TA}
def tCMethK2 (C : Addr) (sp : L2.Sp) (ta : TE) (tk : TA) : TE := fun σ H Q => ta σ H fun x H1 => x = .ref C ∧ tk σ H1 fun zs H2 => ∃ u v, zs = [u, v] ∧ sp [.ref C, v, u] H2 Q E0
theorem pe_cmethK2 {pl : Sem Bool} (he : PE X o ta) (r : CRead X.K C mc) (c : CMet X.K C mc m p g) (F : FnOk X.prog X.w X.K X.mg X.base CX0 k g fd ps sp) (hr : Room k X.A)
    (hb : ∀ (s : Shared) (a u v : Value), BindsTo s fd ⟨[a], [(k1, u), (k2, v)]⟩ (ps.zip [a, v, u])) (hkw : PK X kws tk)
    (hall : (backToKw pos (keywordEach kws X.env)).all (·.1.isSome) = true := by rfl) (hks : (backToKw pos (keywordEach kws X.env)).filterMap (·.1) = [k1, k2] := by rfl)
    (hpl : ((backTo pos (starEach [] X.env)).any (·.1) || (backToKw pos (keywordEach kws X.env)).any (·.1.isNone)) = false := by rfl)
    (ht : eval (.Call (.Attribute o m apos) [] kws pos) X.env = (do
      let ov ← eval o X.env
      standAt apos.atName
      let (f, first) ← holding [ov] (getMethod ov m pl)
      callWith pos f first (backTo pos (starEach [] X.env)) (backToKw pos (keywordEach kws X.env))) := by rfl) :
    PE X (.Call (.Attribute o m apos) [] kws pos) (tCMethK2 C sp ta tk) := by
  refine ⟨fun pins s σ H Q I h => ?_⟩
  refine PySem.W.methodCall_KW (pl := pl) (thn (he.run pins s σ H _ I h) fun u s1 ⟨x, H1, I1, rx, ex, q⟩ => ?_) ht
  subst ex
  obtain rfl : u = Value.ref C := rx
  refine getmethcm_ok I1 r c fun s2 I2 => ?_
  refine PySem.W.callWith_of hpl (PySem.W.keeps_M (K := X.K) (self := .ref C) c.fi) (evalArgs_kw2_nil hall ?_)
  refine thn (hkw.run pos _ s2 σ H1 _ I2 q) fun ws s3 ⟨zs, H2, I3, rz, uu, vv, ez, q2⟩ => ⟨⟨pin_at I3, I3.kIn⟩, ?_⟩
  subst ez
  obtain ⟨w1, w2, ew, r1, r2⟩ := vals2 rz
  subst ew
  rw [hks]
  show wpAny _ _ (call (.ref _) [] [(k1, w1), (k2, w2)]) _ _ _
  have z : wpAny (model X.prog X.w) X.A (call (.ref s1.heap.objs.size) [] [(k1, w1), (k2, w2)]) (EP X ((s1.heap.objs.size, PySem.W.methodObj (.ref g) (.ref C)) :: pins) σ Q) X.xe s3 := by
    refine wpAny_call (PySem.W.method_call (pin_at I3) (codeAny_mono (F.run X.A X.stack s3 H2 ⟨[.ref C], [(k1, w1), (k2, w2)]⟩ [.ref C, w2, w1] [.ref C, vv, uu] Q E0 hr I3.env0 (hb s3 (.ref C) w1 w2) (.cons rfl (.cons r2 (.cons r1 .nil))) q2) fun r s' hq => ?_))
    cases r with
    | error e => exact pass0 _ σ H2 s3 e s' I3 hq
    | ok fl =>
      cases fl with
      | ret u => exact I3.after hq
      | next => exact False.elim hq
      | brk => exact False.elim hq
      | cont => exact False.elim hq
  exact thn z fun _ _ y => unpinE y
end
end Mine

set_option Elab.async false
set_option linter.all false
set_option maxRecDepth 100000
set_option maxHeartbeats 4000000
/-! sorted(xs) of tuples that begin with texts, no two with one. -/
namespace Mine
open PySem PySem.Spec PyProof.Rows L2
/-- the text that a tuple begins with, as signs -/
def headK (h : Heap) (v : Value) : List Nat :=
  match v with
  | .ref a => match h.get? a with
    | some o => match o.data with
      | .seq xs _ => match xs[0]? with
        | some (Value.str x _) => x.cps.toList
        | _ => []
      | _ => []
    | none => []
  | _ => []
def headLt (h : Heap) (u v : Value) : Bool := decide (headK h u < headK h v)
theorem lst_anti {a b : List Nat} (h1 : ¬ a < b) (h2 : ¬ b < a) : a = b := List.le_antisymm (List.not_lt.mp h2) (List.not_lt.mp h1)
theorem headLt_swo (h : Heap) : SrtO.Swo (headLt h) where
  asym x y e := decide_eq_false fun z => List.lt_asymm (of_decide_eq_true e) z
  tr x y z e1 e2 := decide_eq_false fun q => by
    have a := of_decide_eq_false e1
    have b := of_decide_eq_false e2
    have c : headK h x ≤ headK h y := List.not_lt.mp a
    have d : headK h y ≤ headK h z := List.not_lt.mp b
    exact (List.not_lt.mpr (List.le_trans c d)) q
theorem eqBool_me {prog : Program} {w : World} {A : Around} {E : Value → Shared → Prop} {s : Shared} {v : Value} {Q : Bool → Shared → Prop} (q : Q true s) : wpAny (model prog w) A (eqBool v v) Q E s := by
  unfold eqBool
  refine wpAny_holding ?_
  rw [if_pos (by simp)]
  exact wpAny_bind (wpAny_rule (wpAny_pure q))
theorem lex_me {prog : Program} {w : World} {A : Around} {b fin : Bool} {Q : Bool → Shared → Prop} {s : Shared} (q : Q fin s) : ∀ (l : List Value) (i : Nat), PySem.W.KatLex prog w A b fin Q (l.zip l) i s
  | [], i => q
  | v :: l, i => PySem.W.kat_cons (eqBool_me (by
      show PySem.W.KatGo prog w A b fin Q v v (l.zip l) i true s
      unfold PySem.W.KatGo
      rw [if_pos rfl]
      exact lex_me q l (i + 1)))
/-- a tuple that begins with a text -/
def HeadAt (h : Heap) (e : Str × Addr) : Prop := ∃ (o : Obj) (its : Array Value) (n : Nat) (t : PySem.Tok) (r : List Value), h.get? e.2 = some o ∧ o.cls = .type "tuple" ∧ o.data = .seq its n ∧ its.toList = .str e.1 t :: r
theorem HeadAt.key {h : Heap} {e : Str × Addr} (x : HeadAt h e) : headK h (.ref e.2) = e.1.cps.toList := by
  obtain ⟨o, its, n, t, r, g, c, d, l⟩ := x
  have z : its[0]? = some (.str e.1 t) := by rw [← Array.getElem?_toList, l]; rfl
  unfold headK
  simp only [g, d, z]
theorem headTups {h : Heap} : ∀ {es : List (Str × Addr)}, (∀ e ∈ es, HeadAt h e) → ∃ fs : List Value, PySem.W.KatTups h (es.map fun e => Value.ref e.2) fs ∧ fs.length = es.length ∧ ∀ v ∈ fs, ∃ x t, v = Value.str x t
  | [], _ => ⟨[], trivial, rfl, fun _ z => (List.not_mem_nil z).elim⟩
  | e :: es, hs => by
    obtain ⟨fs, a, b, c⟩ := headTups (es := es) fun x hx => hs x (List.mem_cons_of_mem _ hx)
    obtain ⟨o, its, n, t, r, g, cl, d, l⟩ := hs e (List.mem_cons_self ..)
    refine ⟨.str e.1 t :: fs, ⟨⟨e.2, o, its, n, rfl, g, cl, d, by rw [← Array.getElem?_toList, l]; rfl⟩, a⟩, by simp [b], fun v hv => ?_⟩
    rcases List.mem_cons.mp hv with rfl | hv
    · exact ⟨_, _, rfl⟩
    · exact c v hv
theorem headSortable {prog : Program} {w : World} {A : Around} {s : Shared} {a : Addr} {es : List (Str × Addr)} (hs : ∀ e ∈ es, HeadAt s.heap e) (na : ∀ e ∈ es, e.2 ≠ a) (ne : es ≠ []) (nd : ∀ e ∈ es, ∀ e' ∈ es, e.1 = e'.1 → e = e') :
    SrtO.SortableO prog w A s a (es.map fun e => Value.ref e.2) (headLt s.heap) := by
  intro h' keep
  have hs' : ∀ e ∈ es, HeadAt h' e := fun e he => by
    obtain ⟨o, its, n, t, r, g, cl, d, l⟩ := hs e he
    exact ⟨o, its, n, t, r, keep _ _ (na e he) g, cl, d, l⟩
  obtain ⟨fs, kt, fl, strv⟩ := headTups hs'
  refine ⟨tuples' true, fun Q E q => ?_, ?_⟩
  · refine PySem.W.kat_kind (T := .type "str") (s := { heap := h', gens := s.gens, drawn := s.drawn, toks := s.toks, os := s.os }) kt (by rw [fl]; exact List.length_pos_iff.mpr ne) (fun v hv => ?_) (by decide) q
    obtain ⟨x, t, rfl⟩ := strv v hv
    intro A Q E s k q
    rw [PySem.typeOf.eq_7]
    exact wpAny_pure q
  · rintro ⟨p, p2⟩ ⟨q, q2⟩ hp hq
    obtain ⟨e, he, rfl⟩ := List.mem_map.mp hp
    obtain ⟨e', he', rfl⟩ := List.mem_map.mp hq
    obtain ⟨o, its, n, t, r, g, cl, d, l⟩ := hs' e he
    obtain ⟨o', its', n', t', r', g', cl', d', l'⟩ := hs' e' he'
    show wpAny _ _ (keyLt' (tuples' true) (.ref e.2) (.ref e'.2)) _ _ _
    refine PySem.W.kat_lt (s := { heap := h', gens := s.gens, drawn := s.drawn, toks := s.toks, os := s.os }) g d g' d' ?_
    by_cases ee : e = e'
    · subst ee
      rw [g] at g'
      cases g'
      rw [d] at d'
      cases d'
      refine lex_me ⟨rfl, ?_⟩ its.toList 0
      show decide (its.size < its.size) = headLt s.heap (.ref e.2) (.ref e.2)
      unfold headLt
      rw [decide_eq_false (Nat.lt_irrefl _), decide_eq_false (List.lt_irrefl _)]
    · have hne : e.1 ≠ e'.1 := fun z => ee (nd e he e' he' z)
      rw [l, l']
      refine PySem.W.kat_cons (wpAny_eqBool_str ?_)
      rw [decide_eq_false hne]
      show wpAny _ _ (oneLt' true (.str e.1 t) (.str e'.1 t')) _ _ _
      refine oneLt_str ⟨rfl, ?_⟩
      show decide (e.1.cps.toList < e'.1.cps.toList) = headLt s.heap (.ref e.2) (.ref e'.2)
      unfold headLt
      rw [(hs e he).key, (hs e' he').key]
theorem perm_map {α β : Type} {f : α → β} : ∀ {l m : List β}, l.Perm m → ∀ {es : List α}, l = es.map f → ∃ es' : List α, es'.Perm es ∧ m = es'.map f := by
  intro l m h
  induction h with
  | nil => exact fun {es} e => ⟨es, .refl _, e⟩
  | cons x h ih =>
    intro es e
    cases es with
    | nil => cases e
    | cons a es =>
      rw [List.map_cons] at e
      injection e with e1 e2
      obtain ⟨es', p, q⟩ := ih e2
      exact ⟨a :: es', p.cons a, by rw [e1, q]; rfl⟩
  | swap x y l =>
    intro es e
    cases es with
    | nil => cases e
    | cons a es =>
      cases es with
      | nil => cases e
      | cons b es =>
        rw [List.map_cons, List.map_cons] at e
        injection e with e1 e2
        injection e2 with e2 e3
        exact ⟨b :: a :: es, .swap a b es, by rw [e1, e2, e3]; rfl⟩
  | trans h1 h2 i1 i2 =>
    intro es e
    obtain ⟨es', p, q⟩ := i1 e
    obtain ⟨es2, p2, q2⟩ := i2 q
    exact ⟨es2, p2.trans p, q2⟩
def rSortedH (K : PySem.W.Frag) : List V → Hp → VK → Prop := fun xs H Q => ∃ (a : Addr) (es : List (Str × Addr)), xs = [.ref a] ∧ SqL K H a (es.map fun e => V.ref e.2) ∧ (∀ e ∈ es, ∃ r, SqT K H e.2 (.str e.1 :: r)) ∧ (es.map (·.1)).Nodup ∧
  ∀ (es' : List (Str × Addr)) (p : Addr), es'.Perm es → (es'.map (·.1)).Pairwise (fun x y => x.cps.toList < y.cps.toList) → H p = none → Q (.ref p) (upd H p (.lst (es'.map fun e => V.ref e.2)))
theorem cps_inj {x y : Str} (h : x.cps.toList = y.cps.toList) : x = y := by
  cases x; cases y
  simp only [Str.mk.injEq]
  exact Array.ext' h
theorem cr_sortedH {X : Cx} : CallR X (.builtin "sorted") (rSortedH X.K) := by
  intro pins s σ H xs us Q I r q
  obtain ⟨a, es, rfl, hl, heads, nd, q⟩ := q
  obtain ⟨u, rfl, rx⟩ := vals1 r
  cases rx
  obtain ⟨its, rv, pl, hz⟩ := I.list hl
  have ei : its = es.map fun e => Value.ref e.2 := by
    have e0 : (es.map fun e => V.ref e.2) = (es.map (·.2)).map V.ref := by rw [List.map_map]; rfl
    rw [e0] at rv
    rw [refs_at rv, List.map_map]
    rfl
  subst ei
  rw [List.length_map] at hz
  have hs : ∀ e ∈ es, HeadAt s.heap e := fun e he => by
    obtain ⟨r, ht⟩ := heads e he
    obtain ⟨its, rv, ⟨o, ho, hc, n, hd⟩, _⟩ := I.tuple ht
    cases rv with
    | cons r1 r2 =>
      obtain ⟨t, rfl⟩ := r1
      exact ⟨o, _, n, t, _, ho, hc, hd, rfl⟩
  refine Calls.call_function_entry PyProof.Rows.kind_sorted PyProof.Rows.plain_sorted PyProof.Rows.entry_sorted (PyProof.Rows.args_sorted1 _) ?_
  unfold Builtin.«sorted»
  refine wpAny_bind (m := checkCount "sorted" 1 1 _) (wpAny_pure ?_)
  refine wpAny_bind (collect_list pl.isList ?_ (by rw [List.length_map]; exact hz))
  have keep : ∀ (b : Addr) (u : Obj), s.heap.get? b = some u → ((s.heap.push (seqObj "list" #[] 0)).update s.heap.objs.size (Obj.mapSeq fun x => x ++ (es.map fun e => Value.ref e.2).toArray)).get? b = some u := fun b u e => by
    have lt : b < s.heap.objs.size := Heap.lt_size e
    rw [Heap.get?_update_ne _ _ _ _ (Nat.ne_of_lt lt)]
    exact Heap.get?_push_of_some _ e
  generalize (s.heap.push (seqObj "list" #[] 0)).update s.heap.objs.size (Obj.mapSeq fun x => x ++ (es.map fun e => Value.ref e.2).toArray) = h1 at keep
  have I1 : L2.Inv X pins σ H { s with heap := h1 } := I.kept (t' := s.toks) keep
  refine wpAny_bind (wpAny_newList ?_ (by rw [List.length_map]; exact hz))
  have new : (h1.push (seqObj "list" (es.map fun e => Value.ref e.2).toArray 0)).get? h1.objs.size = some (seqObj "list" (es.map fun e => Value.ref e.2).toArray 0) := Heap.get?_push_size _ rfl
  show wpAny _ _ _ _ _ { s with heap := h1.push (seqObj "list" (es.map fun e => Value.ref e.2).toArray 0) }
  have hs1 : ∀ e ∈ es, HeadAt (h1.push (seqObj "list" (es.map fun e => Value.ref e.2).toArray 0)) e := fun e he => by
    obtain ⟨o, its, n, t, r, g, cl, d, l⟩ := hs e he
    exact ⟨o, its, n, t, r, Heap.get?_push_of_some _ (keep _ _ g), cl, d, l⟩
  have na : ∀ e ∈ es, e.2 ≠ h1.objs.size := fun e he z => by
    obtain ⟨o, its, n, t, r, g, _⟩ := hs e he
    exact absurd z (Nat.ne_of_lt (Heap.lt_size (keep _ _ g)))
  have nd' : ∀ e ∈ es, ∀ e' ∈ es, e.1 = e'.1 → e = e' := fun e he e' he' z => by
    obtain ⟨i, hi, e1⟩ := List.getElem_of_mem he
    obtain ⟨j, hj, e2⟩ := List.getElem_of_mem he'
    have ij : i = j := by
      have x1 : (es.map (·.1))[i]? = some e.1 := by rw [List.getElem?_map, List.getElem?_eq_getElem hi, e1]; rfl
      have x2 : (es.map (·.1))[j]? = some e.1 := by rw [List.getElem?_map, List.getElem?_eq_getElem hj, e2, z]; rfl
      exact (List.getElem?_inj (by rw [List.length_map]; exact hi) nd).mp (x1.trans x2.symm)
    subst ij
    rw [← e1, ← e2]
  have lt0 : (es.map fun e => Value.ref e.2).length ≤ sizeLine := by rw [List.length_map]; exact hz
  have key : 2 ≤ (es.map fun e => Value.ref e.2).length → SrtO.SortableO X.prog X.w X.A.in1.in1 { s with heap := h1.push (seqObj "list" (es.map fun e => Value.ref e.2).toArray 0) } h1.objs.size (es.map fun e => Value.ref e.2) (headLt (h1.push (seqObj "list" (es.map fun e => Value.ref e.2).toArray 0))) := fun l2 =>
    headSortable (s := { s with heap := h1.push (seqObj "list" (es.map fun e => Value.ref e.2).toArray 0) }) hs1 na (fun z => by rw [z] at l2; simp at l2) nd'
  have swo := headLt_swo (h1.push (seqObj "list" (es.map fun e => Value.ref e.2).toArray 0))
  generalize hlt : headLt (h1.push (seqObj "list" (es.map fun e => Value.ref e.2).toArray 0)) = ltv at key swo
  refine wpAny_bind (wpAny_holding (wpAny_call_entry PyProof.Rows.slot_list_sort ⟨_, new, rfl⟩ PyProof.Rows.entry_list_sort
    (SrtO.list_sort_ord (s := { s with heap := h1.push (seqObj "list" (es.map fun e => Value.ref e.2).toArray 0) }) swo new lt0 key fun out srt stb => ⟨_, rfl, ?_⟩) (PyProof.Rows.args_list_sort _)))
  obtain ⟨es', pe, rfl⟩ := perm_map stb.perm.symm (f := fun e : Str × Addr => Value.ref e.2) (es := es) rfl
  have me : ∀ e ∈ es', e ∈ es := fun e he => pe.mem_iff.mp he
  have sr : (es'.map (·.1)).Pairwise (fun x y => x.cps.toList < y.cps.toList) := by
    have nd2 : (es'.map (·.1)).Nodup := (pe.map _).nodup_iff.mpr nd
    rw [List.pairwise_map]
    have a : es'.Pairwise (fun x y => x.1 ≠ y.1) := by
      have := nd2
      unfold List.Nodup at this
      rwa [List.pairwise_map] at this
    have b : es'.Pairwise (fun x y => ltv (.ref y.2) (.ref x.2) = false) := by
      have := srt
      unfold SrtO.Srtd at this
      rwa [List.pairwise_map] at this
    refine (a.and b).imp_of_mem fun {x y} hx hy ⟨n, l⟩ => ?_
    rw [← hlt] at l
    unfold headLt at l
    rw [(hs1 x (me x hx)).key, (hs1 y (me y hy)).key] at l
    have l' := of_decide_eq_false l
    by_cases z : x.1.cps.toList < y.1.cps.toList
    · exact z
    · exact absurd (cps_inj (lst_anti z l')) n
  obtain ⟨c, hcc⟩ := PyProof.Rows.sortedHeap_at (vs := es.map fun e => Value.ref e.2) (out := (es'.map fun e => Value.ref e.2).toArray) new
  have yl : (es'.map fun e => V.ref e.2).length ≤ sizeLine := by
    rw [List.length_map, pe.length_eq]
    exact hz
  have vals : ∀ l : List (Str × Addr), Vals (l.map fun e => V.ref e.2) (l.map fun e => Value.ref e.2) := fun l => by
    induction l with
    | nil => exact .nil
    | cons x l ih => exact .cons rfl ih
  refine wpAny_pure ⟨_, rfl, .ref h1.objs.size, upd H h1.objs.size (.lst (es'.map fun e => V.ref e.2)), I1.laid (t' := s.toks) (fun b u e => ?_) (Nat.le_refl _)
    (show ObjOk X.prog X.w _ _ _ (.lst (es'.map fun e => V.ref e.2)) from ⟨yl, (es'.map fun e => Value.ref e.2), c, vals es', hcc⟩), rfl, q es' _ pe sr (I1.hok.fresh (Nat.le_refl _))⟩
  have lt : b < h1.objs.size := Heap.lt_size e
  rw [PyProof.Rows.sortedHeap_old (Nat.ne_of_lt lt) (by rw [Heap.size_push]; exact Nat.lt_succ_of_lt lt)]
  exact Heap.get?_push_of_some _ e
end Mine

set_option Elab.async false
set_option linter.all false
set_option maxRecDepth 100000
set_option maxHeartbeats 4000000
/-! A def of the text with its promise, as one word; built-ins that still stand; new objects. -/
namespace Mine
open PySem PySem.Spec PyProof.Rows L2
/-- the built-ins are not shadowed -/
structure Bi (mg : Str → Option Value) : Prop where
  len : mg "len" = none
  list : mg "list" = none
  tuple : mg "tuple" = none
  range : mg "range" = none
  isinstance : mg "isinstance" = none
  str : mg "str" = none
  int : mg "int" = none
  bool : mg "bool" = none
  all : mg "all" = none
  any : mg "any" = none
  zip : mg "zip" = none
  dict : mg "dict" = none
  set : mg "set" = none
  sorted : mg "sorted" = none
  reversed : mg "reversed" = none
  enumerate : mg "enumerate" = none
  repr : mg "repr" = none
  sum : mg "sum" = none
  min : mg "min" = none
  max : mg "max" = none
/-- a def stands under this name and keeps this promise -/
def Use (P : Program) (w : World) (K : PySem.W.Frag) (mg : Str → Option Value) (base : Heap) (k : Nat) (x : Str) (ps : List Str) (sp : Sp) : Prop :=
  ∃ (f : Addr) (fd : FuncData), FnOk P w K mg base CX0 k f fd ps sp ∧ Binds K fd ps [] ∧ mg x = some (.ref f) ∧ PySem.W.keepIn K (.ref f) = true
def UseG (P : Program) (w : World) (K : PySem.W.Frag) (mg : Str → Option Value) (base : Heap) (k : Nat) (x : Str) (ps : List Str) (sp : Sp) : Prop :=
  ∃ (f : Addr) (fd : FuncData), FnG P w K mg base k f fd ps sp ∧ Binds K fd ps [] ∧ mg x = some (.ref f) ∧ PySem.W.keepIn K (.ref f) = true
theorem Use.mono {P : Program} {w : World} {K : PySem.W.Frag} {mg : Str → Option Value} {base : Heap} {j k : Nat} {x : Str} {ps : List Str} {sp : Sp} (h : j ≤ k) : Use P w K mg base j x ps sp → Use P w K mg base k x ps sp
  | ⟨f, fd, F, b, m, kp⟩ => ⟨f, fd, F.mono h, b, m, kp⟩
theorem Use.imp {P : Program} {w : World} {K : PySem.W.Frag} {mg : Str → Option Value} {base : Heap} {k : Nat} {x : Str} {ps : List Str} {sp sp' : Sp} (h : ∀ vs H Q E, sp' vs H Q E → sp vs H Q E) : Use P w K mg base k x ps sp → Use P w K mg base k x ps sp'
  | ⟨f, fd, F, b, m, kp⟩ => ⟨f, fd, F.imp h, b, m, kp⟩
section
variable {X : Cx} {k : Nat} {ps : List Str} {sp : Sp} {x : Str} {p pos : Pos} {e : Expr} {es : List Expr} {t : L2.TA}
def tUse (sp : Sp) (t : L2.TA) : L2.TE := fun σ H Q => t σ H fun vs H1 => sp vs H1 Q E0
def tUse0 (sp : Sp) : L2.TE := fun σ H Q => sp [] H Q E0
theorem pe_use (U : Use X.prog X.w X.K X.mg X.base k x ps sp) (hr : Room k X.A) (hg : Gl X x) (ha : PA X (e :: es) t) (hdb : (x == (PySem.Str.ofString "__debug__")) = false := by decide) (he : starEach (e :: es) X.env = (false, eval e X.env) :: starEach es X.env := by rfl) (hpl : (backTo pos (starEach es X.env)).any (·.1) = false := by rfl) :
    PE X (.Call (.Name x p) (e :: es) [] pos) (tUse sp t) := by
  obtain ⟨f, fd, F, b, m, kp⟩ := U
  have h : PE X (.Call (.Name x p) (e :: es) [] pos) (tCall sp [] E0 t) := pe_call F hr hg m kp b .nil pass0 ha hdb he hpl
  have e : tCall sp [] E0 t = tUse sp t := by
    unfold tCall tUse
    funext σ H Q
    congr 1
    funext vs H1
    rw [List.append_nil]
  rw [e] at h
  exact h
theorem pe_use0 (U : Use X.prog X.w X.K X.mg X.base k x ps sp) (hr : Room k X.A) (hg : Gl X x) (hdb : (x == (PySem.Str.ofString "__debug__")) = false := by decide) :
    PE X (.Call (.Name x p) [] [] pos) (tUse0 sp) := by
  obtain ⟨f, fd, F, b, m, kp⟩ := U
  exact pe_call0 F hr hg m kp b .nil pass0 hdb
theorem pe_useG (U : UseG X.prog X.w X.K X.mg X.base k x ps sp) (hr : Room k X.A) (hgd : X.A.guards = some []) (hg : Gl X x) (ha : PA X (e :: es) t) (hdb : (x == (PySem.Str.ofString "__debug__")) = false := by decide) (he : starEach (e :: es) X.env = (false, eval e X.env) :: starEach es X.env := by rfl) (hpl : (backTo pos (starEach es X.env)).any (·.1) = false := by rfl) :
    PE X (.Call (.Name x p) (e :: es) [] pos) (tUse sp t) := by
  obtain ⟨f, fd, F, b, m, kp⟩ := U
  exact pe_callG F hr hgd hg m kp b ha hdb he hpl
end
theorem same_of_upd {H H1 : Hp} {p : Addr} {o : HO} (h : H p = none) (e : upd H p o = H1) : Same H H1 := fun b u z => by
  rw [← e]
  exact (upd_ne (ne_of_none z h)).trans z
theorem at_of_upd {H H1 : Hp} {p : Addr} {o : HO} (e : upd H p o = H1) : H1 p = some o := by
  rw [← e]
  exact upd_same
end Mine

set_option Elab.async false
set_option linter.all false
set_option maxRecDepth 100000
set_option maxHeartbeats 1000000
/-! Where ways meet: what holds behind a statement (an expression), said once. -/
namespace Mine
open PySem PySem.Spec PyProof.Rows L2
def tCutS (t : TS) : TS := fun D σ H => ∃ R : L2.St → Hp → Prop, t { D with nx := R } σ H ∧ ∀ σ' H', R σ' H' → D.nx σ' H'
theorem ps_cut {X : Cx} {st : Stmt} {t : TS} (h : PS X st t) : PS X st (tCutS t) := by
  refine ⟨fun pins s σ H D I ⟨R, h1, h2⟩ => ?_⟩
  refine thn (h.run pins s σ H _ I h1) fun fl s' hs => ?_
  cases fl with
  | next =>
    obtain ⟨σ', H', J, q⟩ := hs
    exact ⟨σ', H', J, h2 _ _ q⟩
  | ret u => exact hs
  | brk => exact hs
  | cont => exact hs
def tCutE (t : TE) : TE := fun σ H Q => ∃ R : V → Hp → Prop, t σ H R ∧ ∀ v H', R v H' → Q v H'
theorem pe_cut {X : Cx} {e : Expr} {t : TE} (h : PE X e t) : PE X e (tCutE t) := by
  refine ⟨fun pins s σ H Q I ⟨R, h1, h2⟩ => ?_⟩
  refine thn (h.run pins s σ H _ I h1) fun u s' ⟨v, H', J, r, q⟩ => ⟨v, H', J, r, h2 _ _ q⟩
def tCutT (t : TT) : TT := fun σ H Q => ∃ R : Bool → Hp → Prop, t σ H R ∧ ∀ b H', R b H' → Q b H'
theorem pt_cut {X : Cx} {e : Expr} {t : TT} (h : PT X e t) : PT X e (tCutT t) := by
  refine ⟨fun pins s σ H Q I ⟨R, h1, h2⟩ => ?_⟩
  refine thn (h.run pins s σ H _ I h1) fun u s' ⟨H', J, q⟩ => ⟨H', J, h2 _ _ q⟩
end Mine

set_option Elab.async false
set_option linter.all false
set_option maxRecDepth 100000
set_option maxHeartbeats 4000000
/-! Texts asked by methods: isascii, isalpha, islower, isalnum, isdigit, capitalize; words, names, numbers so. -/
namespace Mine
open PySem PySem.Spec PyProof.Rows L2
def azL : Str := PySem.Str.ofString "abcdefghijklmnopqrstuvwxyz"
def azU : Str := PySem.Str.ofString "ABCDEFGHIJKLMNOPQRSTUVWXYZ"
def dig10 : Str := PySem.Str.ofString "0123456789"
theorem az_iff (c : Nat) : c ∈ azL.cps.toList ↔ 97 ≤ c ∧ c ≤ 122 := by
  rw [show azL.cps.toList = List.range' 97 26 by decide +kernel, List.mem_range'_1]; omega
theorem aU_iff (c : Nat) : c ∈ azU.cps.toList ↔ 65 ≤ c ∧ c ≤ 90 := by
  rw [show azU.cps.toList = List.range' 65 26 by decide +kernel, List.mem_range'_1]; omega
theorem d10_iff (c : Nat) : c ∈ dig10.cps.toList ↔ 48 ≤ c ∧ c ≤ 57 := by
  rw [show dig10.cps.toList = List.range' 48 10 by decide +kernel, List.mem_range'_1]; omega
theorem tabA : (List.range 128).all (fun c => (Unicode.isAlpha c && !(Unicode.isUpper c || Unicode.isTitle c)) == decide (97 ≤ c ∧ c ≤ 122)) = true := by decide +kernel
theorem tabL : (List.range 128).all (fun c => (!decide (97 ≤ c ∧ c ≤ 122)) || Unicode.isLower c) = true := by decide +kernel
theorem tabN : (List.range 128).all (fun c => Unicode.isAlnum c == decide ((97 ≤ c ∧ c ≤ 122) ∨ (65 ≤ c ∧ c ≤ 90) ∨ (48 ≤ c ∧ c ≤ 57))) = true := by decide +kernel
theorem tabD : (List.range 128).all (fun c => Unicode.isDigit c == decide (48 ≤ c ∧ c ≤ 57)) = true := by decide +kernel
theorem tabLo : (List.range 128).all (fun c => Unicode.lowerOf c == [if 65 ≤ c ∧ c ≤ 90 then c + 32 else c]) = true := by decide +kernel
theorem tabTi : (List.range 128).all (fun c => (!decide (65 ≤ c ∧ c ≤ 90)) || Unicode.titleOf c == [c]) = true := by decide +kernel
theorem of_tab {p : Nat → Bool} (h : (List.range 128).all p = true) {c : Nat} (hc : c < 128) : p c = true := List.all_eq_true.mp h c (List.mem_range.mpr hc)
theorem uA {c : Nat} (h : c < 128) : (Unicode.isAlpha c && !(Unicode.isUpper c || Unicode.isTitle c)) = decide (97 ≤ c ∧ c ≤ 122) := beq_iff_eq.mp (of_tab tabA h)
theorem uL {c : Nat} (h : 97 ≤ c ∧ c ≤ 122) : Unicode.isLower c = true := by
  have := of_tab tabL (c := c) (by omega)
  rw [decide_eq_true h] at this
  exact this
theorem uN {c : Nat} (h : c < 128) : Unicode.isAlnum c = decide ((97 ≤ c ∧ c ≤ 122) ∨ (65 ≤ c ∧ c ≤ 90) ∨ (48 ≤ c ∧ c ≤ 57)) := beq_iff_eq.mp (of_tab tabN h)
theorem uD {c : Nat} (h : c < 128) : Unicode.isDigit c = decide (48 ≤ c ∧ c ≤ 57) := beq_iff_eq.mp (of_tab tabD h)
theorem uLo {c : Nat} (h : c < 128) : Unicode.lowerOf c = [if 65 ≤ c ∧ c ≤ 90 then c + 32 else c] := beq_iff_eq.mp (of_tab tabLo h)
theorem uTi {c : Nat} (h : 65 ≤ c ∧ c ≤ 90) : Unicode.titleOf c = [c] := by
  have := of_tab tabTi (c := c) (by omega)
  rw [decide_eq_true h] at this
  exact beq_iff_eq.mp this
theorem aall (x : Str) (p : Nat → Bool) : x.cps.all p = x.cps.toList.all p := by rw [Array.all_toList]
theorem aany (x : Str) (p : Nat → Bool) : x.cps.any p = x.cps.toList.any p := by rw [Array.any_toList]
/-- a word by methods -/
theorem word_by (x : Str) : (Txt.isascii x && (Txt.isalpha x && Txt.islower x)) = (decide (1 ≤ x.length) && x.cps.toList.all fun c => decide (c ∈ azL.cps.toList)) := by
  have e : ∀ c, decide (c ∈ azL.cps.toList) = decide (97 ≤ c ∧ c ≤ 122) := fun c => by
    by_cases h : 97 ≤ c ∧ c ≤ 122
    · rw [decide_eq_true h, decide_eq_true ((az_iff c).mpr h)]
    · rw [decide_eq_false h, decide_eq_false fun z => h ((az_iff c).mp z)]
  rw [show (fun c => decide (c ∈ azL.cps.toList)) = fun c => decide (97 ≤ c ∧ c ≤ 122) from funext e]
  unfold Txt.isascii Txt.isalpha Txt.islower
  rw [aall, aall, aany, aany]
  have hl : x.length = x.cps.toList.length := by simp [Str.length]
  rw [hl]
  generalize x.cps.toList = l
  rw [Bool.eq_iff_iff]
  simp only [Bool.and_eq_true, List.all_eq_true, decide_eq_true_eq, Bool.not_eq_true', List.any_eq_false, List.any_eq_true]
  constructor
  · rintro ⟨h1, ⟨h2, h3⟩, h4, h5⟩
    refine ⟨h2, fun c hc => ?_⟩
    have := uA (h1 c hc)
    rw [h3 c hc] at this
    have h5 := h5 c hc
    rw [Bool.eq_false_iff.mpr h5] at this
    exact of_decide_eq_true this.symm
  · rintro ⟨h1, h2⟩
    have k : ∀ c ∈ l, Unicode.isAlpha c = true ∧ (Unicode.isUpper c || Unicode.isTitle c) = false := fun c hc => by
      have := uA (c := c) (by have := h2 c hc; omega)
      rw [decide_eq_true (h2 c hc)] at this
      have := Bool.and_eq_true_iff.mp this
      exact ⟨this.1, by simpa using this.2⟩
    refine ⟨fun c hc => by have := h2 c hc; omega, ⟨h1, fun c hc => (k c hc).1⟩, ?_, fun c hc => by rw [(k c hc).2]; decide⟩
    cases l with
    | nil => simp at h1
    | cons c r => exact ⟨c, List.mem_cons_self, uL (h2 c List.mem_cons_self)⟩
/-- digits by methods -/
theorem digs_by (x : Str) : (Txt.isascii x && Txt.isdigit x) = (decide (1 ≤ x.length) && x.cps.toList.all fun c => decide (c ∈ dig10.cps.toList)) := by
  have e : ∀ c, decide (c ∈ dig10.cps.toList) = decide (48 ≤ c ∧ c ≤ 57) := fun c => by
    by_cases h : 48 ≤ c ∧ c ≤ 57
    · rw [decide_eq_true h, decide_eq_true ((d10_iff c).mpr h)]
    · rw [decide_eq_false h, decide_eq_false fun z => h ((d10_iff c).mp z)]
  rw [show (fun c => decide (c ∈ dig10.cps.toList)) = fun c => decide (48 ≤ c ∧ c ≤ 57) from funext e]
  unfold Txt.isascii Txt.isdigit
  rw [aall, aall]
  have hl : x.length = x.cps.toList.length := by simp [Str.length]
  rw [hl]
  generalize x.cps.toList = l
  rw [Bool.eq_iff_iff]
  simp only [Bool.and_eq_true, List.all_eq_true, decide_eq_true_eq]
  constructor
  · rintro ⟨h1, h2, h3⟩
    refine ⟨h2, fun c hc => ?_⟩
    have := uD (h1 c hc)
    rw [h3 c hc] at this
    exact of_decide_eq_true this.symm
  · rintro ⟨h1, h2⟩
    exact ⟨fun c hc => by have := h2 c hc; omega, h1, fun c hc => by rw [uD (by have := h2 c hc; omega)]; exact decide_eq_true (h2 c hc)⟩
/-- a list of signs with the first one as it is and the others small -/
theorem cap_low {l : List Nat} (hl : ∀ c ∈ l, c < 128) : (l.flatMap Unicode.lowerOf = l) ↔ ∀ c ∈ l, ¬ (65 ≤ c ∧ c ≤ 90) := by
  induction l with
  | nil => simp
  | cons c r ih =>
    have ih := ih fun d hd => hl d (List.mem_cons_of_mem _ hd)
    rw [List.flatMap_cons, uLo (hl c List.mem_cons_self)]
    simp only [List.singleton_append, List.cons.injEq, ih, List.forall_mem_cons]
    by_cases h : 65 ≤ c ∧ c ≤ 90
    · rw [if_pos h]
      constructor
      · rintro ⟨z, _⟩; omega
      · rintro ⟨z, _⟩; exact absurd h z
    · rw [if_neg h]
      simp [h]
theorem map_idx_const {α β : Type} (f : α → β) : ∀ l : List α, l.mapIdx (fun _ a => f a) = l.map f := fun l => by
  refine List.ext_getElem? fun i => ?_
  rw [List.getElem?_mapIdx, List.getElem?_map]
theorem cap_list {x : Str} {c : Nat} {r : List Nat} (hx : x.cps.toList = c :: r) (h : ∀ d ∈ x.cps.toList, d < 128) :
    (Txt.capitalize x).cps.toList = Unicode.titleOf c ++ r.flatMap Unicode.lowerOf := by
  have hl : (x.length == 0) = false := by
    have : x.length = x.cps.toList.length := by simp [Str.length]
    rw [this, hx]
    rfl
  unfold Txt.capitalize
  rw [hl]
  show (placed x _).toList = _
  unfold placed
  rw [Array.toList_flatten, Array.toList_mapIdx]
  have e : List.map Array.toList (x.cps.toList.mapIdx (fun i d => (((if (i == 0) = true then Unicode.titleOf d else Unicode.lowerAt x.cps i)).toArray))) = x.cps.toList.mapIdx (fun i d => if i = 0 then Unicode.titleOf d else Unicode.lowerOf d) := by
    refine List.ext_getElem? fun i => ?_
    rw [List.getElem?_map, List.getElem?_mapIdx, List.getElem?_mapIdx]
    cases q : x.cps.toList[i]? with
    | none => rfl
    | some d =>
      have hd := h d (List.mem_of_getElem? q)
      have la : Unicode.lowerAt x.cps i = Unicode.lowerOf d := by
        unfold Unicode.lowerAt
        rw [← Array.getElem?_toList, q]
        show (if (d == 0x3A3 && _) = true then _ else _) = _
        rw [show (d == 0x3A3) = false by simp; omega, Bool.false_and]
        rfl
      show some _ = some _
      by_cases z : i = 0
      · subst z; rfl
      · show some ((if (i == 0) = true then Unicode.titleOf d else Unicode.lowerAt x.cps i).toArray.toList) = some (if i = 0 then Unicode.titleOf d else Unicode.lowerOf d)
        rw [if_neg z, if_neg (by simpa using z), la]
  refine (congrArg List.flatten e).trans ?_
  rw [hx, List.mapIdx_cons, if_pos rfl, List.flatten_cons]
  congr 1
  rw [show (fun (i : Nat) (d : Nat) => if i + 1 = 0 then Unicode.titleOf d else Unicode.lowerOf d) = fun _ d => Unicode.lowerOf d from funext fun i => funext fun d => if_neg (by omega), map_idx_const, List.flatMap_def]
theorem str_list {x y : Str} : x = y ↔ x.cps.toList = y.cps.toList := by
  constructor
  · rintro rfl; rfl
  · intro h
    cases x with
    | mk a => cases y with
      | mk b => have : a = b := Array.toList_inj.mp h
                rw [this]
/-- a name by methods -/
theorem name_not {x : Str} {c : Nat} {r : List Nat} (hx : x.cps.toList = c :: r) (h : (Txt.isascii x && Txt.isalnum x) = false) :
    (decide (c ∈ azU.cps.toList) && r.all fun d => decide (d ∈ azL.cps.toList) || decide (d ∈ dig10.cps.toList)) = false := by
  rw [Bool.eq_false_iff]
  intro z
  simp only [Bool.and_eq_true, List.all_eq_true, decide_eq_true_eq, Bool.or_eq_true, az_iff, aU_iff, d10_iff] at z
  have hl : x.length = x.cps.toList.length := by simp [Str.length]
  have : (Txt.isascii x && Txt.isalnum x) = true := by
    unfold Txt.isascii Txt.isalnum
    rw [aall, aall, hl, hx]
    simp only [Bool.and_eq_true, List.all_eq_true, decide_eq_true_eq]
    have k : ∀ d ∈ c :: r, (97 ≤ d ∧ d ≤ 122) ∨ (65 ≤ d ∧ d ≤ 90) ∨ (48 ≤ d ∧ d ≤ 57) := fun d hd => by
      rcases List.mem_cons.mp hd with rfl | hd
      · exact .inr (.inl z.1)
      · rcases z.2 d hd with q | q
        · exact .inl q
        · exact .inr (.inr q)
    exact ⟨fun d hd => by have := k d hd; omega, by simp, fun d hd => by rw [uN (by have := k d hd; omega)]; exact decide_eq_true (k d hd)⟩
  rw [this] at h
  cases h
theorem name_by {x : Str} {c : Nat} {r : List Nat} (hx : x.cps.toList = c :: r) (h : (Txt.isascii x && Txt.isalnum x) = true) :
    (decide (65 ≤ c ∧ c ≤ 90) && decide (x = Txt.capitalize x)) = (decide (c ∈ azU.cps.toList) && r.all fun d => decide (d ∈ azL.cps.toList) || decide (d ∈ dig10.cps.toList)) := by
  have h := Bool.and_eq_true_iff.mp h
  unfold Txt.isascii Txt.isalnum at h
  rw [aall, aall] at h
  have ha : ∀ d ∈ x.cps.toList, d < 128 := fun d hd => of_decide_eq_true (List.all_eq_true.mp h.1 d hd)
  have hn : ∀ d ∈ x.cps.toList, (97 ≤ d ∧ d ≤ 122) ∨ (65 ≤ d ∧ d ≤ 90) ∨ (48 ≤ d ∧ d ≤ 57) := fun d hd => by
    have := List.all_eq_true.mp (Bool.and_eq_true_iff.mp h.2).2 d hd
    rw [uN (ha d hd)] at this
    exact of_decide_eq_true this
  by_cases hc : 65 ≤ c ∧ c ≤ 90
  · rw [decide_eq_true hc, decide_eq_true ((aU_iff c).mpr hc), Bool.true_and, Bool.true_and, Bool.eq_iff_iff, decide_eq_true_eq, str_list, cap_list hx ha, uTi hc, hx]
    have := cap_low (l := r) fun d hd => ha d (by rw [hx]; exact List.mem_cons_of_mem _ hd)
    rw [List.singleton_append, List.cons.injEq, eq_comm (a := r), this]
    simp only [true_and, List.all_eq_true, Bool.or_eq_true, decide_eq_true_eq, az_iff, d10_iff]
    constructor
    · intro z d hd
      have k1 := z d hd
      rcases hn d (by rw [hx]; exact List.mem_cons_of_mem _ hd) with q | q | q
      · exact .inl q
      · exact absurd q k1
      · exact .inr q
    · intro z d hd
      have := z d hd
      omega
  · rw [decide_eq_false hc, decide_eq_false fun z => hc ((aU_iff c).mp z)]
    rfl
/-- one sign between two others -/
theorem sign_ge {a b : Nat} : (decide (([a] : List Nat) < [b])) = decide (a < b) := by
  by_cases h : a < b
  · rw [decide_eq_true h, decide_eq_true (show ([a] : List Nat) < [b] from List.Lex.rel h)]
  · rw [decide_eq_false h, decide_eq_false]
    intro z
    cases z with
    | rel z => exact h z
    | cons z => cases z
end Mine

set_option Elab.async false
set_option linter.all false
set_option maxRecDepth 100000
set_option maxHeartbeats 4000000
/-! Things as data: parts, pieces, sizes, texts. -/
namespace Mine
open PySem PySem.Spec PyProof.Rows L2 TL
/-- the parts of a thing -/
def kids : PyData → List PyData
  | .tuple (_ :: ds) => ds
  | _ => []
mutual
/-- a word or name, or a kind and at least one part -/
def thing : PyData → Bool
  | .str _ => true
  | .tuple (.str _ :: d :: ds) => thing d && thingAll ds
  | _ => false
def thingAll : List PyData → Bool
  | [] => true
  | d :: ds => thing d && thingAll ds
end
theorem thingAll_iff {ds : List PyData} : thingAll ds = true ↔ ∀ d ∈ ds, thing d = true := by
  induction ds with
  | nil => simp [thingAll]
  | cons d ds ih => simp only [thingAll, Bool.and_eq_true, ih, List.mem_cons, forall_eq_or_imp]
theorem thing_cases {d : PyData} (h : thing d = true) : (∃ c, d = .str c) ∨ ∃ c ps, d = .tuple (.str c :: ps) ∧ ps ≠ [] ∧ ∀ p ∈ ps, thing p = true := by
  cases d with
  | str c => exact .inl ⟨c, rfl⟩
  | tuple ds =>
    match ds, h with
    | .str c :: p :: ps, h =>
      refine .inr ⟨c, p :: ps, rfl, List.cons_ne_nil _ _, ?_⟩
      have h' : thing p = true ∧ thingAll ps = true := by simpa [thing] using h
      intro x hx
      rcases List.mem_cons.mp hx with rfl | hx
      · exact h'.1
      · exact thingAll_iff.mp h'.2 x hx
    | [], h => simp [thing] at h
    | [x], h => cases x <;> simp [thing] at h
    | .none :: _ :: _, h => simp [thing] at h
    | .bool _ :: _ :: _, h => simp [thing] at h
    | .int _ :: _ :: _, h => simp [thing] at h
    | .list _ :: _ :: _, h => simp [thing] at h
    | .tuple _ :: _ :: _, h => simp [thing] at h
    | .dict _ :: _ :: _, h => simp [thing] at h
  | none => simp [thing] at h
  | bool _ => simp [thing] at h
  | int _ => simp [thing] at h
  | list _ => simp [thing] at h
  | dict _ => simp [thing] at h
theorem thing_kids {d p : PyData} (h : thing d = true) (hp : p ∈ kids d) : thing p = true := by
  rcases thing_cases h with ⟨c, rfl⟩ | ⟨c, ps, rfl, _, e⟩
  · exact (List.not_mem_nil hp).elim
  · exact e p hp
mutual
/-- all pieces, wholes ahead of their parts -/
def lot : PyData → List PyData
  | .tuple [] => [.tuple []]
  | .tuple (k :: ds) => .tuple (k :: ds) :: lots ds
  | d => [d]
def lots : List PyData → List PyData
  | [] => []
  | d :: ds => lot d ++ lots ds
end
theorem lots_eq (ds : List PyData) : lots ds = ds.flatMap lot := by
  induction ds with
  | nil => simp [lots]
  | cons d ds ih => simp [lots, ih]
theorem lot_eq (d : PyData) : lot d = d :: (kids d).flatMap lot := by
  cases d with
  | tuple ds =>
    cases ds with
    | nil => simp [lot, kids]
    | cons k ds => simp [lot, kids, lots_eq]
  | none => simp [lot, kids]
  | bool _ => simp [lot, kids]
  | int _ => simp [lot, kids]
  | str _ => simp [lot, kids]
  | list _ => simp [lot, kids]
  | dict _ => simp [lot, kids]
def sz (d : PyData) : Nat := (lot d).length
theorem sz_pos (d : PyData) : 1 ≤ sz d := by
  unfold sz
  rw [lot_eq]
  simp
mutual
/-- the text of a thing -/
def txt : PyData → Str
  | .str c => c
  | .tuple (.str c :: ds) => c ++ PySem.Str.ofString "(" ++ Str.join (PySem.Str.ofString ",") (txts ds) ++ PySem.Str.ofString ")"
  | _ => Str.empty
def txts : List PyData → List Str
  | [] => []
  | d :: ds => txt d :: txts ds
end
theorem txts_eq (ds : List PyData) : txts ds = ds.map txt := by
  induction ds with
  | nil => simp [txts]
  | cons d ds ih => simp [txts, ih]
theorem txt_tup (c : Str) (ds : List PyData) : txt (.tuple (.str c :: ds)) = c ++ PySem.Str.ofString "(" ++ Str.join (PySem.Str.ofString ",") (ds.map txt) ++ PySem.Str.ofString ")" := by
  rw [← txts_eq]
  simp only [txt]
theorem txt_str (c : Str) : txt (.str c) = c := by simp only [txt]
/-- the pieces of some things as a worklist lists them -/
structure Bfs (ts P : List PyData) : Prop where
  eq : P = ts ++ P.flatMap kids
  far : ∀ i, i < P.length → i < ts.length + ((P.take i).flatMap kids).length
  perm : P.Perm (ts.flatMap lot)
/-- .. under way: some are done, some are left -/
structure BfsW (ts D T : List PyData) : Prop where
  eq : D ++ T = ts ++ D.flatMap kids
  far : ∀ i, i < D.length → i < ts.length + ((D.take i).flatMap kids).length
  perm : (D ++ T.flatMap lot).Perm (ts.flatMap lot)
theorem BfsW.init (ts : List PyData) : BfsW ts [] ts := ⟨by simp, fun i h => by simp at h, by simp⟩
theorem BfsW.step {ts D T : List PyData} {x : PyData} (h : BfsW ts D (x :: T)) : BfsW ts (D ++ [x]) (T ++ kids x) := by
  refine ⟨?_, fun i hi => ?_, ?_⟩
  · rw [List.flatMap_append, List.append_assoc, ← List.append_assoc ts, ← h.eq]
    simp
  · rw [List.length_append] at hi
    rcases Nat.lt_or_ge i D.length with l | l
    · rw [List.take_append_of_le_length (by omega)]
      exact h.far i l
    · have e : i = D.length := by simp at hi; omega
      subst e
      rw [List.take_append_of_le_length (Nat.le_refl _), List.take_length]
      have := congrArg List.length h.eq
      simp only [List.length_append, List.length_cons] at this
      omega
  · refine List.Perm.trans ?_ h.perm
    rw [List.flatMap_append, List.flatMap_cons, lot_eq x]
    rw [List.append_assoc]
    refine List.Perm.append_left D ?_
    rw [List.singleton_append, List.cons_append]
    exact List.Perm.cons x List.perm_append_comm
theorem BfsW.fin {ts D : List PyData} (h : BfsW ts D []) : Bfs ts D := by
  refine ⟨?_, h.far, ?_⟩
  · have := h.eq
    rwa [List.append_nil] at this
  · have := h.perm
    simpa using this
theorem BfsW.count {ts D T : List PyData} (h : BfsW ts D T) : D.length + T.length ≤ (ts.flatMap lot).length := by
  have e := h.perm.length_eq
  rw [List.length_append] at e
  have : T.length ≤ (T.flatMap lot).length := by
    clear h e
    induction T with
    | nil => simp
    | cons x T ih =>
      rw [List.flatMap_cons, List.length_append, List.length_cons]
      have := sz_pos x
      unfold sz at this
      omega
  omega
theorem Bfs.len {ts P : List PyData} (h : Bfs ts P) : P.length = (ts.flatMap lot).length := h.perm.length_eq
/-- the place of a piece's parts -/
theorem Bfs.at_ {ts P : List PyData} (h : Bfs ts P) {i : Nat} {x : PyData} (hx : P[i]? = some x) :
    (P.drop (ts.length + ((P.take i).flatMap kids).length)).take (kids x).length = kids x ∧ ts.length + ((P.take (i + 1)).flatMap kids).length = ts.length + ((P.take i).flatMap kids).length + (kids x).length ∧
      ts.length + ((P.take i).flatMap kids).length + (kids x).length ≤ P.length ∧ i < ts.length + ((P.take i).flatMap kids).length := by
  have il : i < P.length := (List.getElem?_eq_some_iff.mp hx).1
  have e1 : P.take (i + 1) = P.take i ++ [x] := by rw [List.take_add_one, hx]; rfl
  have e2 : P = P.take i ++ (x :: P.drop (i + 1)) := by
    have := (List.take_append_drop (i + 1) P).symm
    rw [e1, List.append_assoc] at this
    exact this
  have e3 : P = (ts ++ (P.take i).flatMap kids) ++ (kids x ++ (P.drop (i + 1)).flatMap kids) := by
    have := h.eq
    conv at this => rhs; rw [e2]
    rw [List.flatMap_append, List.flatMap_cons] at this
    rw [List.append_assoc]
    exact this
  refine ⟨?_, ?_, ?_, h.far i il⟩
  · have g : ∀ (A B : List PyData), P = A ++ (kids x ++ B) → (P.drop A.length).take (kids x).length = kids x := fun A B e => by
      rw [e, List.drop_left, List.take_left]
    have := g _ _ e3
    rwa [List.length_append] at this
  · rw [e1, List.flatMap_append, List.length_append]
    simp only [List.flatMap_cons, List.flatMap_nil, List.append_nil]
    omega
  · have := congrArg List.length e3
    simp only [List.length_append] at this
    omega
theorem Bfs.all {ts P : List PyData} (h : Bfs ts P) : P.length = ts.length + (P.flatMap kids).length := by
  have := congrArg List.length h.eq
  rwa [List.length_append] at this
theorem flat_ge {q : PyData} : ∀ {l : List PyData}, q ∈ l → (lot q).length ≤ (l.flatMap lot).length
  | y :: ys, h => by
    rw [List.flatMap_cons, List.length_append]
    rcases List.mem_cons.mp h with rfl | h
    · omega
    · have := flat_ge h
      omega
theorem lot_thing : ∀ (n : Nat) (d : PyData), sz d ≤ n → thing d = true → ∀ p ∈ lot d, thing p = true
  | 0, d, hn, _ => by have := sz_pos d; omega
  | n + 1, d, hn, h => by
    intro p hp
    rw [lot_eq] at hp
    rcases List.mem_cons.mp hp with rfl | hp
    · exact h
    · obtain ⟨q, hq, hp⟩ := List.mem_flatMap.mp hp
      have : sz q < sz d := by
        unfold sz
        rw [lot_eq d, List.length_cons]
        have : (lot q).length ≤ ((kids d).flatMap lot).length := flat_ge hq
        omega
      exact lot_thing n q (by omega) (thing_kids h hq) p hp
theorem Bfs.things {ts P : List PyData} (h : Bfs ts P) (ht : ∀ t ∈ ts, thing t = true) : ∀ p ∈ P, thing p = true := fun p hp => by
  obtain ⟨t, ht1, ht2⟩ := List.mem_flatMap.mp (h.perm.mem_iff.mp hp)
  exact lot_thing _ t (Nat.le_refl _) (ht t ht1) p ht2
end Mine

set_option Elab.async false
set_option linter.all false
set_option maxRecDepth 100000
set_option maxHeartbeats 4000000
/-! Tables merged; sorted texts; things told by their texts. -/
namespace Mine
open PySem PySem.Spec PyProof.Rows L2 TL
theorem keys_put {kvs : List (Key × V)} {k : Key} {v : V} : (k ∈ kvs.map (·.1) → (putK kvs k v).map (·.1) = kvs.map (·.1)) ∧ (k ∉ kvs.map (·.1) → (putK kvs k v).map (·.1) = kvs.map (·.1) ++ [k]) := by
  unfold putK
  have a : ((kvs.any fun kv => decide (kv.1 = k)) = true) ↔ k ∈ kvs.map (·.1) := by
    rw [List.any_eq_true, List.mem_map]
    constructor
    · rintro ⟨x, hx, e⟩
      exact ⟨x, hx, of_decide_eq_true e⟩
    · rintro ⟨x, hx, e⟩
      exact ⟨x, hx, decide_eq_true e⟩
  refine ⟨fun h => ?_, fun h => ?_⟩
  · rw [if_pos (a.mpr h), List.map_map]
    refine List.map_congr_left fun x _ => ?_
    show (if x.1 = k then (x.1, v) else x).1 = x.1
    split <;> rfl
  · rw [if_neg fun z => h (a.mp z), List.map_append]
    rfl
theorem merge_all {R : Key → V → Prop} : ∀ {l kvs : List (Key × V)}, (kvs.map (·.1)).Nodup → (∀ k v, valV kvs k = some v → R k v) → (∀ p ∈ l, R p.1 p.2) →
    ((mergeK kvs l).map (·.1)).Nodup ∧ (∀ k v, valV (mergeK kvs l) k = some v → R k v) ∧ (∀ k, k ∈ (mergeK kvs l).map (·.1) ↔ k ∈ kvs.map (·.1) ∨ k ∈ l.map (·.1))
  | [], kvs, n, a, _ => ⟨n, a, fun k => by simp [mergeK]⟩
  | p :: l, kvs, n, a, b => by
    have e : mergeK kvs (p :: l) = mergeK (putK kvs p.1 p.2) l := rfl
    obtain ⟨kp, kq⟩ := keys_put (kvs := kvs) (k := p.1) (v := p.2)
    have n' : ((putK kvs p.1 p.2).map (·.1)).Nodup := by
      by_cases h : p.1 ∈ kvs.map (·.1)
      · rw [kp h]; exact n
      · rw [kq h]
        exact List.nodup_append.mpr ⟨n, by simp, fun x hx y hy => by
          rw [List.mem_singleton.mp hy]
          intro z
          rw [z] at hx
          exact h hx⟩
    obtain ⟨h1, h2, h3⟩ := merge_all (R := R) (l := l) (kvs := putK kvs p.1 p.2) n' (fun k v hv => by
      rw [valV_put] at hv
      by_cases z : k = p.1
      · rw [if_pos z] at hv
        cases hv
        rw [z]
        exact b p (List.mem_cons_self ..)
      · rw [if_neg z] at hv
        exact a k v hv) fun x hx => b x (List.mem_cons_of_mem _ hx)
    rw [e]
    refine ⟨h1, h2, fun k => ?_⟩
    rw [h3 k, List.map_cons, List.mem_cons]
    by_cases h : p.1 ∈ kvs.map (·.1)
    · rw [kp h]
      constructor
      · rintro (z | z)
        · exact .inl z
        · exact .inr (.inr z)
      · rintro (z | rfl | z)
        · exact .inl z
        · exact .inl h
        · exact .inr z
    · rw [kq h, List.mem_append, List.mem_singleton]
      constructor
      · rintro ((z | z) | z)
        · exact .inl z
        · exact .inr (.inl z)
        · exact .inr (.inr z)
      · rintro (z | z | z)
        · exact .inl (.inl z)
        · exact .inl (.inr z)
        · exact .inr z
theorem val_some {kvs : List (Key × V)} {k : Key} (h : k ∈ kvs.map (·.1)) : ∃ v, valV kvs k = some v := by
  have a := valV_any k kvs
  obtain ⟨p, hp, rfl⟩ := List.mem_map.mp h
  have : (kvs.any fun kv => decide (kv.1 = p.1)) = true := List.any_eq_true.mpr ⟨p, hp, decide_eq_true rfl⟩
  rw [this] at a
  exact Option.isSome_iff_exists.mp a.symm
/-! ascending texts -/
def LtS (a b : Str) : Prop := a.cps.toList < b.cps.toList
theorem lt_of_nlt {a b : Str} (h : ¬ LtS b a) (ne : a ≠ b) : LtS a b := by
  have h1 : a.cps.toList ≤ b.cps.toList := List.not_lt.mp h
  rcases List.le_iff_lt_or_eq.mp h1 with z | z
  · exact z
  · exact absurd (ext_tl z) ne
theorem asc_rising : ∀ (p : Str) (l : List Str), risingS p l = true → (p :: l).Nodup → (p :: l).Pairwise LtS
  | p, [], _, _ => by simp
  | p, x :: r, h, n => by
    have h' : (!ltCps x.cps.toList p.cps.toList) = true ∧ risingS x r = true := by simpa [risingS] using h
    have n' := (List.nodup_cons.mp n).2
    have ih := asc_rising x r h'.2 n'
    have px : LtS p x := by
      refine lt_of_nlt (fun z => ?_) (fun z => (List.nodup_cons.mp n).1 (by rw [z]; exact List.mem_cons_self ..))
      have : ltCps x.cps.toList p.cps.toList = true := by rw [ltCps_eq]; exact decide_eq_true z
      rw [this] at h'
      exact absurd h'.1 (by decide)
    refine List.pairwise_cons.mpr ⟨fun y hy => ?_, ih⟩
    rcases List.mem_cons.mp hy with rfl | hy
    · exact px
    · exact List.lt_trans px ((List.pairwise_cons.mp ih).1 y hy)
theorem asc_sorted {l : List Str} (h : sortedS l = true) (n : l.Nodup) : l.Pairwise LtS := by
  cases l with
  | nil => exact List.Pairwise.nil
  | cons p l => exact asc_rising p l h n
theorem lts_irr {a : Str} : ¬ LtS a a := List.lt_irrefl _
theorem asc_eq : ∀ {l m : List Str}, l.Pairwise LtS → m.Pairwise LtS → (∀ x, x ∈ l ↔ x ∈ m) → l = m
  | [], [], _, _, _ => rfl
  | [], y :: m, _, _, h => absurd ((h y).mpr (List.mem_cons_self ..)) (List.not_mem_nil)
  | x :: l, [], _, _, h => absurd ((h x).mp (List.mem_cons_self ..)) (List.not_mem_nil)
  | x :: l, y :: m, a, b, h => by
    obtain ⟨a1, a2⟩ := List.pairwise_cons.mp a
    obtain ⟨b1, b2⟩ := List.pairwise_cons.mp b
    have exy : x = y := by
      rcases List.mem_cons.mp ((h x).mp (List.mem_cons_self ..)) with z | z
      · exact z
      · rcases List.mem_cons.mp ((h y).mpr (List.mem_cons_self ..)) with z' | z'
        · exact z'.symm
        · exact absurd (List.lt_trans (b1 x z) (a1 y z')) lts_irr
    subst exy
    rw [asc_eq (l := l) (m := m) a2 b2 fun z => ?_]
    constructor
    · intro hz
      rcases List.mem_cons.mp ((h z).mp (List.mem_cons_of_mem _ hz)) with e | e
      · rw [e] at hz
        exact absurd (a1 x hz) lts_irr
      · exact e
    · intro hz
      rcases List.mem_cons.mp ((h z).mpr (List.mem_cons_of_mem _ hz)) with e | e
      · rw [e] at hz
        exact absurd (b1 x hz) lts_irr
      · exact e
/-! things told by their texts -/
def okS (x : Str) : Bool := x.cps.toList.all fun c => decide (c ≠ 40 ∧ c ≠ 41 ∧ c ≠ 44)
mutual
def thW : PyData → Bool
  | .str x => okS x
  | .tuple (.str c :: d :: ds) => okS c && thW d && thWs ds
  | _ => false
def thWs : List PyData → Bool
  | [] => true
  | d :: ds => thW d && thWs ds
end
theorem thWs_iff {ds : List PyData} : thWs ds = true ↔ ∀ d ∈ ds, thW d = true := by
  induction ds with
  | nil => simp [thWs]
  | cons d ds ih => simp only [thWs, Bool.and_eq_true, ih, List.mem_cons, forall_eq_or_imp]
theorem thW_cases {d : PyData} (h : thW d = true) : (∃ c, d = .str c ∧ okS c = true) ∨ ∃ c ps, d = .tuple (.str c :: ps) ∧ ps ≠ [] ∧ okS c = true ∧ thWs ps = true := by
  cases d with
  | str c => exact .inl ⟨c, rfl, by simpa only [thW] using h⟩
  | tuple ds =>
    match ds, h with
    | .str c :: p :: ps, h =>
      have h' : (okS c = true ∧ thW p = true) ∧ thWs ps = true := by simpa [thW] using h
      exact .inr ⟨c, p :: ps, rfl, List.cons_ne_nil _ _, h'.1.1, by simp only [thWs, h'.1.2, h'.2]; rfl⟩
    | [], h => simp [thW] at h
    | [x], h => cases x <;> simp [thW] at h
    | .none :: _ :: _, h => simp [thW] at h
    | .bool _ :: _ :: _, h => simp [thW] at h
    | .int _ :: _ :: _, h => simp [thW] at h
    | .list _ :: _ :: _, h => simp [thW] at h
    | .tuple _ :: _ :: _, h => simp [thW] at h
    | .dict _ :: _ :: _, h => simp [thW] at h
  | none => simp [thW] at h
  | bool _ => simp [thW] at h
  | int _ => simp [thW] at h
  | list _ => simp [thW] at h
  | dict _ => simp [thW] at h
end Mine

set_option Elab.async false
set_option linter.all false
set_option maxRecDepth 100000
set_option maxHeartbeats 4000000
/-! Unlike things have unlike texts. -/
namespace Mine
open PySem PySem.Spec PyProof.Rows L2 TL
abbrev tx (d : PyData) : List Nat := tl (txt d)
theorem tx_node (c : Str) (ps : List PyData) : tx (.tuple (.str c :: ps)) = tl c ++ 40 :: (joinL [44] (ps.map tx) ++ [41]) := by
  have a : tl (PySem.Str.ofString "(") = [40] := by decide +kernel
  have b : tl (PySem.Str.ofString ")") = [41] := by decide +kernel
  have e : tl (PySem.Str.ofString ",") = [44] := by decide +kernel
  show tl (txt _) = _
  rw [txt_tup, tl_append, tl_append, tl_append, tl_join, a, b, e, List.map_map]
  simp [tx, Function.comp_def]
def brk (c : Nat) : Prop := c = 40 ∨ c = 41 ∨ c = 44
theorem okS_free {x : Str} (h : okS x = true) : ∀ c ∈ tl x, ¬ brk c := fun c hc => by
  have := List.all_eq_true.mp h c hc
  have := of_decide_eq_true this
  unfold brk
  omega
def AtBrk (r : List Nat) : Prop := ∀ c t, r = c :: t → brk c
theorem free_cut {a b : List Nat} : ∀ {r r' : List Nat}, (∀ c ∈ a, ¬ brk c) → (∀ c ∈ b, ¬ brk c) → AtBrk r → AtBrk r' → a ++ r = b ++ r' → a = b ∧ r = r' := by
  induction a generalizing b with
  | nil =>
    intro r r' ha hb hr hr' e
    cases b with
    | nil => exact ⟨rfl, e⟩
    | cons x b => exact absurd (hr x _ e) (hb x (List.mem_cons_self ..))
  | cons y a ih =>
    intro r r' ha hb hr hr' e
    cases b with
    | nil => exact absurd (hr' y _ e.symm) (ha y (List.mem_cons_self ..))
    | cons x b =>
      injection e with e1 e2
      obtain ⟨h1, h2⟩ := ih (fun c hc => ha c (List.mem_cons_of_mem _ hc)) (fun c hc => hb c (List.mem_cons_of_mem _ hc)) hr hr' e2
      exact ⟨by rw [e1, h1], h2⟩
/-- behind a thing: the end, a comma or a closing bracket -/
def Beh (r : List Nat) : Prop := ∀ c t, r = c :: t → c = 41 ∨ c = 44
theorem Beh.at_ {r : List Nat} (h : Beh r) : AtBrk r := fun c t e => .inr (h c t e)
theorem at40 (t : List Nat) : AtBrk (40 :: t) := fun c u e => by
  injection e with e1 _
  exact .inl e1.symm
theorem beh41 (t : List Nat) : Beh (41 :: t) := fun c u e => by
  injection e with e1 _
  exact .inl e1.symm
theorem beh44 (t : List Nat) : Beh (44 :: t) := fun c u e => by
  injection e with e1 _
  exact .inr e1.symm
mutual
theorem tx_cut : ∀ (d d' : PyData) (r r' : List Nat), thW d = true → thW d' = true → Beh r → Beh r' → tx d ++ r = tx d' ++ r' → d = d' ∧ r = r'
  | .str x, d', r, r', h, h', hr, hr', e => by
    have hx : okS x = true := by simpa only [thW] using h
    have ex : tx (.str x) = tl x := by show tl (txt _) = _; rw [txt_str]
    rw [ex] at e
    rcases thW_cases h' with ⟨y, rfl, hy⟩ | ⟨c, ps, rfl, _, hc, _⟩
    · have ey : tx (.str y) = tl y := by show tl (txt _) = _; rw [txt_str]
      rw [ey] at e
      obtain ⟨a, b⟩ := free_cut (okS_free hx) (okS_free hy) hr.at_ hr'.at_ e
      exact ⟨by rw [ext_tl a], b⟩
    · rw [tx_node, List.append_assoc] at e
      obtain ⟨_, b⟩ := free_cut (okS_free hx) (okS_free hc) hr.at_ (at40 _) e
      have := hr 40 _ b
      omega
  | .tuple (.str c :: p :: ps), d', r, r', h, h', hr, hr', e => by
    have h2 : (okS c = true ∧ thW p = true) ∧ thWs ps = true := by simpa [thW] using h
    have h3 : thWs (p :: ps) = true := by simp only [thWs, h2.1.2, h2.2]; rfl
    rw [tx_node, List.append_assoc] at e
    rcases thW_cases h' with ⟨y, rfl, hy⟩ | ⟨c', ps', rfl, ne, hc, hp⟩
    · have ey : tx (.str y) = tl y := by show tl (txt _) = _; rw [txt_str]
      rw [ey] at e
      obtain ⟨_, b⟩ := free_cut (okS_free h2.1.1) (okS_free hy) (at40 _) hr'.at_ e
      have := hr' 40 _ b.symm
      omega
    · rw [tx_node, List.append_assoc] at e
      obtain ⟨a, b⟩ := free_cut (okS_free h2.1.1) (okS_free hc) (at40 _) (at40 _) e
      have b2 : joinL [44] ((p :: ps).map tx) ++ [41] ++ r = joinL [44] (ps'.map tx) ++ [41] ++ r' := (List.cons.inj b).2
      rw [List.append_assoc, List.append_assoc] at b2
      cases ps' with
      | nil => exact absurd rfl ne
      | cons p' ps' =>
        obtain ⟨a2, b3⟩ := txs_cut (p :: ps) (p' :: ps') r r' (List.cons_ne_nil _ _) (List.cons_ne_nil _ _) h3 hp b2
        exact ⟨by rw [ext_tl a, a2], b3⟩
  | .none, _, _, _, h, _, _, _, _ => by simp [thW] at h
  | .bool _, _, _, _, h, _, _, _, _ => by simp [thW] at h
  | .int _, _, _, _, h, _, _, _, _ => by simp [thW] at h
  | .list _, _, _, _, h, _, _, _, _ => by simp [thW] at h
  | .dict _, _, _, _, h, _, _, _, _ => by simp [thW] at h
  | .tuple [], _, _, _, h, _, _, _, _ => by simp [thW] at h
  | .tuple [d], _, _, _, h, _, _, _, _ => by cases d <;> simp [thW] at h
  | .tuple (.none :: _ :: _), _, _, _, h, _, _, _, _ => by simp [thW] at h
  | .tuple (.bool _ :: _ :: _), _, _, _, h, _, _, _, _ => by simp [thW] at h
  | .tuple (.int _ :: _ :: _), _, _, _, h, _, _, _, _ => by simp [thW] at h
  | .tuple (.list _ :: _ :: _), _, _, _, h, _, _, _, _ => by simp [thW] at h
  | .tuple (.tuple _ :: _ :: _), _, _, _, h, _, _, _, _ => by simp [thW] at h
  | .tuple (.dict _ :: _ :: _), _, _, _, h, _, _, _, _ => by simp [thW] at h
theorem txs_cut : ∀ (ds ds' : List PyData) (r r' : List Nat), ds ≠ [] → ds' ≠ [] → thWs ds = true → thWs ds' = true →
    joinL [44] (ds.map tx) ++ 41 :: r = joinL [44] (ds'.map tx) ++ 41 :: r' → ds = ds' ∧ r = r'
  | [], _, _, _, z, _, _, _, _ => absurd rfl z
  | _ :: _, [], _, _, _, z, _, _, _ => absurd rfl z
  | [d], [d'], r, r', _, _, h, h', e => by
    have h1 : thW d = true := by simpa [thWs] using h
    have h2 : thW d' = true := by simpa [thWs] using h'
    obtain ⟨a, b⟩ := tx_cut d d' _ _ h1 h2 (beh41 _) (beh41 _) e
    exact ⟨by rw [a], (List.cons.inj b).2⟩
  | [d], d' :: e' :: ds', r, r', _, _, h, h', e => by
    have h1 : thW d = true := by simpa [thWs] using h
    have h2 : thW d' = true ∧ thWs (e' :: ds') = true := by simpa [thWs] using h'
    have e1 : tx d ++ 41 :: r = tx d' ++ 44 :: (joinL [44] ((e' :: ds').map tx) ++ 41 :: r') := by
      have : tx d ++ 41 :: r = tx d' ++ ([44] ++ joinL [44] ((e' :: ds').map tx)) ++ 41 :: r' := e
      rw [this, List.append_assoc]
      rfl
    obtain ⟨_, b⟩ := tx_cut d d' _ _ h1 h2.1 (beh41 _) (beh44 _) e1
    injection b with b1 _
    cases b1
  | d :: e' :: ds, [d'], r, r', _, _, h, h', e => by
    have h1 : thW d = true ∧ thWs (e' :: ds) = true := by simpa [thWs] using h
    have h2 : thW d' = true := by simpa [thWs] using h'
    have e1 : tx d ++ 44 :: (joinL [44] ((e' :: ds).map tx) ++ 41 :: r) = tx d' ++ 41 :: r' := by
      have : tx d ++ ([44] ++ joinL [44] ((e' :: ds).map tx)) ++ 41 :: r = tx d' ++ 41 :: r' := e
      rw [← this, List.append_assoc]
      rfl
    obtain ⟨_, b⟩ := tx_cut d d' _ _ h1.1 h2 (beh44 _) (beh41 _) e1
    injection b with b1 _
    cases b1
  | d :: e1 :: ds, d' :: e2 :: ds', r, r', _, _, h, h', e => by
    have h1 : thW d = true ∧ thWs (e1 :: ds) = true := by simpa [thWs] using h
    have h2 : thW d' = true ∧ thWs (e2 :: ds') = true := by simpa [thWs] using h'
    have e3 : tx d ++ 44 :: (joinL [44] ((e1 :: ds).map tx) ++ 41 :: r) = tx d' ++ 44 :: (joinL [44] ((e2 :: ds').map tx) ++ 41 :: r') := by
      have : tx d ++ ([44] ++ joinL [44] ((e1 :: ds).map tx)) ++ 41 :: r = tx d' ++ ([44] ++ joinL [44] ((e2 :: ds').map tx)) ++ 41 :: r' := e
      rw [List.append_assoc, List.append_assoc, List.append_assoc, List.append_assoc] at this
      exact this
    obtain ⟨a, b⟩ := tx_cut d d' _ _ h1.1 h2.1 (beh44 _) (beh44 _) e3
    obtain ⟨a2, b2⟩ := txs_cut (e1 :: ds) (e2 :: ds') r r' (List.cons_ne_nil _ _) (List.cons_ne_nil _ _) h1.2 h2.2 (List.cons.inj b).2
    exact ⟨by rw [a, a2], b2⟩
end
theorem txt_inj {d d' : PyData} (h : thW d = true) (h' : thW d' = true) (e : txt d = txt d') : d = d' :=
  (tx_cut d d' [] [] h h' (fun _ _ z => nomatch z) (fun _ _ z => nomatch z) (by rw [List.append_nil, List.append_nil]; exact congrArg tl e)).1
theorem thW_thing : ∀ (n : Nat) (d : PyData), sz d ≤ n → thW d = true → thing d = true
  | 0, d, hn, _ => by have := sz_pos d; omega
  | n + 1, d, hn, h => by
    rcases thW_cases h with ⟨c, rfl, _⟩ | ⟨c, ps, rfl, ne, _, hp⟩
    · simp [thing]
    · have kd : kids (.tuple (.str c :: ps)) = ps := rfl
      have small : ∀ p ∈ ps, thing p = true := fun p hp1 => by
        refine thW_thing n p ?_ (thWs_iff.mp hp p hp1)
        have : sz (.tuple (.str c :: ps)) = 1 + (ps.flatMap lot).length := by
          unfold sz
          rw [lot_eq, kd, List.length_cons]
          omega
        have := flat_ge hp1
        unfold sz at *
        omega
      cases ps with
      | nil => exact absurd rfl ne
      | cons p ps =>
        simp only [thing, Bool.and_eq_true]
        exact ⟨small p (List.mem_cons_self ..), thingAll_iff.mpr fun x hx => small x (List.mem_cons_of_mem _ hx)⟩
theorem thW_lot : ∀ (n : Nat) (d : PyData), sz d ≤ n → thW d = true → ∀ p ∈ lot d, thW p = true
  | 0, d, hn, _ => by have := sz_pos d; omega
  | n + 1, d, hn, h => by
    intro p hp
    rw [lot_eq] at hp
    rcases List.mem_cons.mp hp with rfl | hp
    · exact h
    · obtain ⟨q, hq, hp⟩ := List.mem_flatMap.mp hp
      have qs : sz q < sz d := by
        have := flat_ge hq
        unfold sz
        rw [lot_eq d, List.length_cons]
        omega
      refine thW_lot n q (by omega) ?_ p hp
      rcases thW_cases h with ⟨c, rfl, _⟩ | ⟨c, ps, rfl, _, _, hps⟩
      · exact (List.not_mem_nil hq).elim
      · exact thWs_iff.mp hps q hq
end Mine

set_option Elab.async false
set_option linter.all false
set_option maxRecDepth 100000
set_option maxHeartbeats 4000000
/-! Sizes of texts of pieces; things put in the places of names. -/
namespace Mine
open PySem PySem.Spec PyProof.Rows L2 TL
theorem kid_len {d p : PyData} (h : thing d = true) (hp : p ∈ kids d) : (txt p).length ≤ (txt d).length := by
  rcases thing_cases h with ⟨c, rfl⟩ | ⟨c, ps, rfl, _, _⟩
  · exact (List.not_mem_nil hp).elim
  · have hp' : p ∈ ps := hp
    rw [txt_tup, strLen_append, strLen_append, strLen_append]
    have e1 : ∀ z : Str, (tl z).length = z.length := fun z => by simp [tl, Str.length]
    have : (txt p).length ≤ (Str.join (PySem.Str.ofString ",") (ps.map txt)).length := by
      rw [← e1, ← e1, tl_join]
      have go : ∀ {S : List Nat} {l : List (List Nat)} {x : List Nat}, x ∈ l → x.length ≤ (joinL S l).length := fun {S l x} => by
        induction l with
        | nil => intro h; exact (List.not_mem_nil h).elim
        | cons y l ih =>
          intro hx
          cases l with
          | nil =>
            rw [List.mem_singleton.mp hx]
            exact Nat.le_refl _
          | cons z l =>
            show x.length ≤ (y ++ (S ++ joinL S (z :: l))).length
            rw [List.length_append, List.length_append]
            rcases List.mem_cons.mp hx with rfl | hx
            · omega
            · have := ih hx
              omega
      exact go (List.mem_map.mpr ⟨txt p, List.mem_map.mpr ⟨p, hp', rfl⟩, rfl⟩)
    omega
theorem lot_len : ∀ (n : Nat) (d : PyData), sz d ≤ n → thing d = true → ∀ p ∈ lot d, (txt p).length ≤ (txt d).length
  | 0, d, hn, _ => by have := sz_pos d; omega
  | n + 1, d, hn, h => by
    intro p hp
    rw [lot_eq] at hp
    rcases List.mem_cons.mp hp with rfl | hp
    · exact Nat.le_refl _
    · obtain ⟨q, hq, hp⟩ := List.mem_flatMap.mp hp
      have qs : sz q < sz d := by
        have := flat_ge hq
        unfold sz
        rw [lot_eq d, List.length_cons]
        omega
      exact Nat.le_trans (lot_len n q (by omega) (thing_kids h hq) p hp) (kid_len h hq)
mutual
/-- other things in the places of words and names -/
def put (f : Str → PyData) : PyData → PyData
  | .str x => f x
  | .tuple (.str c :: ds) => .tuple (.str c :: puts f ds)
  | d => d
def puts (f : Str → PyData) : List PyData → List PyData
  | [] => []
  | d :: ds => put f d :: puts f ds
end
theorem puts_eq (f : Str → PyData) (ds : List PyData) : puts f ds = ds.map (put f) := by
  induction ds with
  | nil => simp [puts]
  | cons d ds ih => simp [puts, ih]
theorem put_str (f : Str → PyData) (x : Str) : put f (.str x) = f x := by simp only [put]
theorem put_tup (f : Str → PyData) (c : Str) (ps : List PyData) : put f (.tuple (.str c :: ps)) = .tuple (.str c :: ps.map (put f)) := by
  rw [← puts_eq]
  simp only [put]
theorem thing_tup {c : Str} {ps : List PyData} (ne : ps ≠ []) (h : ∀ p ∈ ps, thing p = true) : thing (.tuple (.str c :: ps)) = true := by
  cases ps with
  | nil => exact absurd rfl ne
  | cons p ps =>
    simp only [thing, Bool.and_eq_true]
    exact ⟨h p (List.mem_cons_self ..), thingAll_iff.mpr fun x hx => h x (List.mem_cons_of_mem _ hx)⟩
theorem put_thing {f : Str → PyData} (hf : ∀ x, thing (f x) = true) : ∀ (n : Nat) (d : PyData), sz d ≤ n → thing d = true → thing (put f d) = true
  | 0, d, hn, _ => by have := sz_pos d; omega
  | n + 1, d, hn, h => by
    rcases thing_cases h with ⟨c, rfl⟩ | ⟨c, ps, rfl, ne, hp⟩
    · rw [put_str]
      exact hf c
    · rw [put_tup]
      refine thing_tup (by simpa using ne) fun q hq => ?_
      obtain ⟨p, hp1, rfl⟩ := List.mem_map.mp hq
      refine put_thing hf n p ?_ (hp p hp1)
      have e : sz (.tuple (.str c :: ps)) = 1 + (ps.flatMap lot).length := by
        unfold sz
        rw [lot_eq, List.length_cons]
        show (ps.flatMap lot).length + 1 = _
        omega
      have := flat_ge hp1
      unfold sz at *
      omega
end Mine

set_option Elab.async false
set_option linter.all false
set_option maxRecDepth 100000
set_option maxHeartbeats 4000000
/-! What the drawing of worlds rests on: decks, kinds, openings, needs, worlds; no row. -/
namespace Mine
open PySem PySem.Spec PyProof.Rows L2 TL
section
variable {P : Program} {w : World} {K : PySem.W.Frag} {mg : Str → Option Value} {base : Heap}
def deckD (dl : Addr) (m t : Int) : List (Key × V) := [(Sum.inr (PySem.Str.ofString "cells"), .ref dl), (Sum.inr (PySem.Str.ofString "mixed"), .int m), (Sum.inr (PySem.Str.ofString "draws"), .int t)]
theorem neCM : ¬ (Sum.inr (PySem.Str.ofString "cells") : Key) = Sum.inr (PySem.Str.ofString "mixed") := by decide +kernel
theorem neCD : ¬ (Sum.inr (PySem.Str.ofString "cells") : Key) = Sum.inr (PySem.Str.ofString "draws") := by decide +kernel
theorem neMD : ¬ (Sum.inr (PySem.Str.ofString "mixed") : Key) = Sum.inr (PySem.Str.ofString "draws") := by decide +kernel
theorem vC {dl : Addr} {m t : Int} : valV (deckD dl m t) (Sum.inr (PySem.Str.ofString "cells")) = some (.ref dl) := valV_pos rfl
theorem vM {dl : Addr} {m t : Int} : valV (deckD dl m t) (Sum.inr (PySem.Str.ofString "mixed")) = some (.int m) := (valV_neg neCM).trans (valV_pos rfl)
theorem vD {dl : Addr} {m t : Int} : valV (deckD dl m t) (Sum.inr (PySem.Str.ofString "draws")) = some (.int t) := (valV_neg neCD).trans ((valV_neg neMD).trans (valV_pos rfl))
theorem pD {dl : Addr} {m t u : Int} : putK (deckD dl m t) (Sum.inr (PySem.Str.ofString "draws")) (.int u) = deckD dl m u := by
  have h1 := neCD
  have h2 := neMD
  have e1 : ¬ PySem.Str.ofString "cells" = PySem.Str.ofString "draws" := fun q => h1 (congrArg Sum.inr q)
  have e2 : ¬ PySem.Str.ofString "mixed" = PySem.Str.ofString "draws" := fun q => h2 (congrArg Sum.inr q)
  unfold putK deckD
  simp [e1, e2]
theorem gC {H : Hp} {dk dl : Addr} {m t : Int} (h : H dk = some (.dK (deckD dl m t))) : DGet H dk (.str (PySem.Str.ofString "cells")) (some (.ref dl)) := by
  have q := DGet.k (k := Sum.inr (PySem.Str.ofString "cells")) h
  rw [vC] at q
  exact q
theorem gM {H : Hp} {dk dl : Addr} {m t : Int} (h : H dk = some (.dK (deckD dl m t))) : DGet H dk (.str (PySem.Str.ofString "mixed")) (some (.int m)) := by
  have q := DGet.k (k := Sum.inr (PySem.Str.ofString "mixed")) h
  rw [vM] at q
  exact q
theorem gD {H : Hp} {dk dl : Addr} {m t : Int} (h : H dk = some (.dK (deckD dl m t))) : DGet H dk (.str (PySem.Str.ofString "draws")) (some (.int t)) := by
  have q := DGet.k (k := Sum.inr (PySem.Str.ofString "draws")) h
  rw [vD] at q
  exact q
theorem ppD {H : Hp} {dk dl : Addr} {m t u : Int} (h : H dk = some (.dK (deckD dl m t))) : DPut H dk (.str (PySem.Str.ofString "draws")) (.int u) (upd H dk (.dK (deckD dl m u))) := by
  have q := DPut.k (k := Sum.inr (PySem.Str.ofString "draws")) (v := .int u) h (by show 3 < sizeLine; decide)
  rw [pD] at q
  exact q
/-- the deck stands at dk, its cells at dl, after t draws -/
structure DeckAt (H : Hp) (dk dl : Addr) (t : Int) : Prop where
  d : ∃ m, H dk = some (.dK (deckD dl m t)) ∧ 0 ≤ m ∧ m < 2147483587
  l : ∃ cs : List Int, H dl = some (.lst (cs.map V.int)) ∧ cs.length ≤ 63
/-- all but the deck stands -/
def Keep (dk dl : Addr) (H H' : Hp) : Prop := ∀ b o, b ≠ dk → b ≠ dl → H b = some o → H' b = some o
def spDraw : Sp := fun vs H Q _ => ∃ (dk dl : Addr) (b t : Int), vs = [.ref dk, .int b] ∧ DeckAt H dk dl t ∧ 1 ≤ b ∧ b ≤ 1000 ∧ 0 ≤ t ∧ t ≤ 100000 ∧
  ∀ (r : Int) (H' : Hp), 0 ≤ r → r < b → DeckAt H' dk dl (t + 1) → Keep dk dl H H' → Q (.int r) H'
structure TxtD (mg : Str → Option Value) : Prop where
  int : mg "int" = none
  lst : mg "list" = none
theorem ints_dp {H : Hp} {K : PySem.W.Frag} : ∀ cs : List Int, DpAll K H (cs.map V.int) (cs.map PyData.int)
  | [] => .nil
  | c :: cs => .cons (.int c) (ints_dp cs)
theorem ints_lay : ∀ cs : List Int, PyData.canLayAll0 (cs.map PyData.int) = true
  | [] => by simp [PyData.canLayAll0]
  | c :: cs => by simp [PyData.canLayAll0, PyData.canLay0, ints_lay cs]
theorem ints_dep : ∀ cs : List Int, PyData.depthAll (cs.map PyData.int) = 0
  | [] => by simp [PyData.depthAll]
  | c :: cs => by simp [PyData.depthAll, PyData.depth, ints_dep cs]
theorem ints_shaped (cs : List Int) : SeqAt.shaped (.list (cs.map PyData.int)) = true := by
  show (PyData.canLay0 (.list (cs.map PyData.int)) && decide (PyData.depth (.list (cs.map PyData.int)) ≤ 64)) = true
  rw [Bool.and_eq_true]
  refine ⟨by simp only [PyData.canLay0]; exact ints_lay cs, decide_eq_true ?_⟩
  simp only [PyData.depth, ints_dep]
  decide
def spDeck (K : PySem.W.Frag) : Sp := fun vs H Q _ => ∃ (a : Addr) (ns : List Int), vs = [.ref a] ∧ SqL K H a (ns.map V.int) ∧ ns.length ≤ 63 ∧
  ∀ (dk dl : Addr) (H' : Hp), Same H H' → H dk = none → H dl = none → DeckAt H' dk dl 0 → Q (.ref dk) H'
theorem merged {dl : Addr} {m : Int} : mergeK [] (deckD dl m 0) = deckD dl m 0 := by
  have e1 : ¬ PySem.Str.ofString "cells" = PySem.Str.ofString "mixed" := fun q => neCM (congrArg Sum.inr q)
  have e2 : ¬ PySem.Str.ofString "cells" = PySem.Str.ofString "draws" := fun q => neCD (congrArg Sum.inr q)
  have e3 : ¬ PySem.Str.ofString "mixed" = PySem.Str.ofString "draws" := fun q => neMD (congrArg Sum.inr q)
  simp [mergeK, deckD, putK, e1, e2, e3]
theorem same_new {H H1 : Hp} {p : Addr} {o : HO} (h : Same H H1) (hp : H1 p = none) : Same H (upd H1 p o) := fun b u e => (upd_ne (ne_of_none (h b u e) hp)).trans (h b u e)
/-- what is new in a heap -/
def Nw (H H' : Hp) : Hp := fun b => if H b = none then H' b else none
theorem Nw.at {H H' : Hp} {b : Addr} {o : HO} (h : H b = none) (e : H' b = some o) : Nw H H' b = some o := by
  unfold Nw
  rw [if_pos h]
  exact e
theorem Nw.of {H H' : Hp} {b : Addr} {o : HO} (e : Nw H H' b = some o) : H b = none ∧ H' b = some o := by
  unfold Nw at e
  by_cases h : H b = none
  · rw [if_pos h] at e
    exact ⟨h, e⟩
  · rw [if_neg h] at e
    cases e
theorem Nw.mono {H0 H H' H'' : Hp} (dom : ∀ b, H b = none → H0 b = none) (k : ∀ b o, H b = none → H' b = some o → H'' b = some o) : ∀ b o, Nw H H' b = some o → Nw H0 H'' b = some o := fun b o e =>
  let ⟨h1, h2⟩ := Nw.of e
  Nw.at (dom b h1) (k b o h1 h2)
theorem Keep.trans {dk dl : Addr} {H H1 H2 : Hp} (a : Keep dk dl H H1) (b : Keep dk dl H1 H2) : Keep dk dl H H2 := fun c o h1 h2 e => b c o h1 h2 (a c o h1 h2 e)
theorem Keep.new {dk dl p : Addr} {H H1 : Hp} {o : HO} (a : Keep dk dl H H1) (hp : H1 p = none) : Keep dk dl H (upd H1 p o) := fun c u h1 h2 e => (upd_ne (ne_of_none (a c u h1 h2 e) hp)).trans (a c u h1 h2 e)
theorem Keep.refl {dk dl : Addr} {H : Hp} : Keep dk dl H H := fun _ _ _ _ e => e
theorem DeckAt.new {dk dl p : Addr} {H : Hp} {t : Int} {o : HO} (h : DeckAt H dk dl t) (hp : H p = none) : DeckAt (upd H p o) dk dl t := by
  obtain ⟨⟨m, h1, m0, m1⟩, ⟨cs, h2, l⟩⟩ := h
  exact ⟨⟨m, (upd_ne (ne_of_none h1 hp)).trans h1, m0, m1⟩, ⟨cs, (upd_ne (ne_of_none h2 hp)).trans h2, l⟩⟩
theorem DeckAt.off {dk dl p : Addr} {H : Hp} {t : Int} (h : DeckAt H dk dl t) (hp : H p = none) : p ≠ dk ∧ p ≠ dl := by
  obtain ⟨⟨m, h1, _⟩, ⟨cs, h2, _⟩⟩ := h
  exact ⟨(ne_of_none h1 hp).symm, (ne_of_none h2 hp).symm⟩
theorem DeckAt.dom {dk dl : Addr} {H H' : Hp} {t t' : Int} (h : DeckAt H dk dl t) (h' : DeckAt H' dk dl t') (k : Keep dk dl H H') : ∀ b, H' b = none → H b = none := fun b e => by
  cases z : H b with
  | none => rfl
  | some o =>
    by_cases e1 : b = dk
    · obtain ⟨⟨m, h1, _⟩, _⟩ := h'
      rw [e1, h1] at e
      cases e
    · by_cases e2 : b = dl
      · obtain ⟨_, ⟨cs, h2, _⟩⟩ := h'
        rw [e2, h2] at e
        cases e
      · rw [k b o e1 e2 z] at e
        cases e
/-- what a deed on the deck alone leaves of new things -/
theorem Keep.news {dk dl : Addr} {H H' H'' : Hp} {t : Int} (h : DeckAt H dk dl t) (k : Keep dk dl H' H'') : ∀ b o, H b = none → H' b = some o → H'' b = some o := fun b o n e =>
  let ⟨h1, h2⟩ := h.off n
  k b o h1 h2 e
theorem Shows.up {n n' l l' : Nat} {d : PyData} (h : Shows n l d) (h1 : n ≤ n') (h2 : l ≤ l') : Shows n' l' d := ⟨h.ok, Nat.le_trans h.len h1, Nat.le_trans h.dep h2⟩
/-- all of them -/
theorem DKs.snoc' {H : Hp} {vs : List V} {ds : List PyData} {v : V} {d : PyData} (a : DKs H vs ds) (h : DK H v d) : DKs H (vs ++ [v]) (ds ++ [d]) := DKs.snoc h a
structure ShowsAll (n l k : Nat) (ds : List PyData) : Prop where
  ok : PyData.showableAll ds = true
  len : ((PyData.shownAll ds).map (·.length)).sum ≤ n * k
  num : (PyData.shownAll ds).length ≤ k
  dep : PyData.depthAll ds ≤ l
theorem ShowsAll.nil {n l : Nat} : ShowsAll n l 0 [] := ⟨by simp [PyData.showableAll], by simp [PyData.shownAll], by simp [PyData.shownAll], by simp [PyData.depthAll]⟩
theorem ShowsAll.snoc {n l k : Nat} {d : PyData} (h : Shows n l d) : ∀ {ds : List PyData}, ShowsAll n l k ds → ShowsAll n l (k + 1) (ds ++ [d]) := fun {ds} a => by
  have ap1 : ∀ xs : List PyData, PyData.showableAll (xs ++ [d]) = (PyData.showableAll xs && d.showable) := fun xs => by
    induction xs with
    | nil => simp [PyData.showableAll]
    | cons x r ih => simp [PyData.showableAll, ih, Bool.and_assoc]
  have ap2 : ∀ xs : List PyData, PyData.shownAll (xs ++ [d]) = PyData.shownAll xs ++ [d.shown] := fun xs => by
    induction xs with
    | nil => simp [PyData.shownAll]
    | cons x r ih => simp [PyData.shownAll, ih]
  have ap3 : ∀ xs : List PyData, PyData.depthAll (xs ++ [d]) = max (PyData.depthAll xs) d.depth := fun xs => by
    induction xs with
    | nil => simp [PyData.depthAll]
    | cons x r ih =>
      simp only [List.cons_append, PyData.depthAll, ih]
      omega
  refine ⟨by rw [ap1, a.ok, h.ok]; rfl, ?_, ?_, ?_⟩
  · rw [ap2, List.map_append, List.sum_append, Nat.mul_succ]
    have := h.len
    have := a.len
    simp only [List.map_cons, List.map_nil, List.sum_cons, List.sum_nil]
    omega
  · rw [ap2, List.length_append]
    have := a.num
    simp only [List.length_cons, List.length_nil]
    omega
  · rw [ap3]
    have := h.dep
    have := a.dep
    omega
theorem ShowsAll.list {n l k : Nat} {ds : List PyData} (a : ShowsAll n l k ds) (hk : k ≤ 3) : Shows (3 * n + 9) (l + 1) (.list ds) := by
  have h1 := listText_len_le (PyData.shownAll ds)
  have h2 : n * k ≤ n * 3 := Nat.mul_le_mul_left n hk
  have h3 := a.len
  have h4 := a.num
  have h5 := a.dep
  exact ⟨by simpa only [PyData.showable] using a.ok, by simp only [PyData.shown]; omega, by simp only [PyData.depth]; omega⟩
theorem ShowsAll.tuple {n l k : Nat} {ds : List PyData} (a : ShowsAll n l k ds) (hk : k ≤ 3) : Shows (3 * n + 9) (l + 1) (.tuple ds) := by
  have h1 := tupleText_len_le (PyData.shownAll ds)
  have h2 : n * k ≤ n * 3 := Nat.mul_le_mul_left n hk
  have h3 := a.len
  have h4 := a.num
  have h5 := a.dep
  exact ⟨by simpa only [PyData.showable] using a.ok, by simp only [PyData.shown]; omega, by simp only [PyData.depth]; omega⟩
theorem pick {xs : List V} {r : Int} (h0 : 0 ≤ r) (h1 : r < (xs.length : Int)) : ∃ y, y ∈ xs ∧ atI xs r = some y := by
  obtain ⟨j, rfl⟩ := Int.eq_ofNat_of_zero_le h0
  have hj : j < xs.length := by omega
  exact ⟨xs[j], List.getElem_mem hj, atI_nat (List.getElem?_eq_getElem hj)⟩
theorem same_rfl {H : Hp} : Same H H := fun _ _ e => e
theorem same_tr {H H1 H2 : Hp} (a : Same H H1) (b : Same H1 H2) : Same H H2 := fun p o e => b p o (a p o e)
theorem same_free {H H' : Hp} (k : Same H H') {b : Addr} (e : H' b = none) : H b = none := by
  cases z : H b with
  | none => rfl
  | some o =>
    rw [k b o z] at e
    cases e
mutual
theorem dk_dp {H : Hp} (K : PySem.W.Frag) : ∀ (d : PyData) (v : V), DK H v d → d.canLay0 = true → Dp K H v d
  | .none, _, h, _ => by cases h; exact .non
  | .bool b, _, h, _ => by cases h; exact .bl b
  | .int i, _, h, _ => by cases h; exact .int i
  | .str x, _, h, _ => by cases h; exact .str x
  | .list ds, _, h, c => by
    cases h with
    | lst e r => exact .lst (.inl (.inl e)) (dks_dp K ds _ r (by simpa [PyData.canLay0] using c))
  | .tuple ds, _, h, c => by
    cases h with
    | tup e r => exact .tup (.inl (.inl e)) (dks_dp K ds _ r (by simpa [PyData.canLay0] using c))
  | .dict _, _, _, c => by simp [PyData.canLay0] at c
theorem dks_dp {H : Hp} (K : PySem.W.Frag) : ∀ (ds : List PyData) (vs : List V), DKs H vs ds → PyData.canLayAll0 ds = true → DpAll K H vs ds
  | [], _, h, _ => by cases h; exact .nil
  | d :: ds, _, h, c => by
    have c' : d.canLay0 = true ∧ PyData.canLayAll0 ds = true := by simpa [PyData.canLayAll0] using c
    cases h with
    | cons h1 h2 => exact .cons (dk_dp K d _ h1 c'.1) (dks_dp K ds _ h2 c'.2)
end
def spPick : Sp := fun vs H Q _ => ∃ (dk dl s : Addr) (t : Int) (xs : List V), vs = [.ref dk, .ref s] ∧ DeckAt H dk dl t ∧ s ≠ dl ∧ H s = some (.lst xs) ∧ xs ≠ [] ∧ xs.length ≤ 100 ∧ 0 ≤ t ∧ t ≤ 100000 ∧
  ∀ (y : V) (H' : Hp), y ∈ xs → DeckAt H' dk dl (t + 1) → Keep dk dl H H' → Q y H'
structure TxtP (K : PySem.W.Frag) (mg : Str → Option Value) (fD fP : Addr) : Prop extends TxtD mg where
  len : mg "len" = none
  gD : mg "_law_draw" = some (.ref fD)
  kD : PySem.W.keepIn K (.ref fD) = true
  gP : mg "_law_pick" = some (.ref fP)
  kP : PySem.W.keepIn K (.ref fP) = true
/-- a need of a kind of m parts, the kinds of one part being ss -/
def NeedOk (m : Int) (ss : List Str) (d : PyData) : Prop :=
  (∃ j : Int, 0 ≤ j ∧ j < m ∧ d = .tuple [.str (PySem.Str.ofString "part"), .int j]) ∨
  (∃ (c : Str) (j : Int), c ∈ ss ∧ 0 ≤ j ∧ j < m ∧ d = .tuple [.str (PySem.Str.ofString "around"), .str c, .int j]) ∨
  ∃ (c : Str) (j : Int), c ∈ ss ∧ 0 ≤ j ∧ j < m ∧ d = .tuple [.str (PySem.Str.ofString "inside"), .int j, .str c]
def spNeed : Sp := fun vs H Q _ => ∃ (dk dl s : Addr) (t m : Int) (ss : List Str), vs = [.ref dk, .ref s, .int m] ∧ DeckAt H dk dl t ∧ s ≠ dl ∧ H s = some (.lst (ss.map V.str)) ∧ ss.length ≤ 8 ∧ 1 ≤ m ∧ m ≤ 3 ∧ (∀ x ∈ ss, PyData.strOk x = true) ∧ 0 ≤ t ∧ t ≤ 90000 ∧
  ∀ (v : V) (d : PyData) (t' : Int) (H' : Hp), DeckAt H' dk dl t' → t ≤ t' → t' ≤ t + 3 → Keep dk dl H H' → DK (Nw H H') v d → NeedOk m ss d → Q v H'
theorem strs_dp {H : Hp} {K : PySem.W.Frag} : ∀ cs : List Str, DpAll K H (cs.map V.str) (cs.map PyData.str)
  | [] => .nil
  | c :: cs => .cons (.str c) (strs_dp cs)
theorem strs_lay : ∀ cs : List Str, (∀ x ∈ cs, PyData.strOk x = true) → PyData.canLayAll0 (cs.map PyData.str) = true
  | [], _ => by simp [PyData.canLayAll0]
  | c :: cs, h => by
    simp only [List.map_cons, PyData.canLayAll0, PyData.canLay0, Bool.and_eq_true]
    exact ⟨h c (List.mem_cons_self ..), strs_lay cs fun x hx => h x (List.mem_cons_of_mem _ hx)⟩
theorem strs_dep : ∀ cs : List Str, PyData.depthAll (cs.map PyData.str) = 0
  | [] => by simp [PyData.depthAll]
  | c :: cs => by simp [PyData.depthAll, PyData.depth, strs_dep cs]
theorem strs_shaped {cs : List Str} (h : ∀ x ∈ cs, PyData.strOk x = true) : SeqAt.shaped (.list (cs.map PyData.str)) = true := by
  show (PyData.canLay0 (.list (cs.map PyData.str)) && decide (PyData.depth (.list (cs.map PyData.str)) ≤ 64)) = true
  rw [Bool.and_eq_true]
  refine ⟨by simp only [PyData.canLay0]; exact strs_lay cs h, decide_eq_true ?_⟩
  simp only [PyData.depth, strs_dep]
  decide
/-- what a deed on the deck alone leaves of tuples -/
theorem Keep.kt {K : PySem.W.Frag} {dk dl : Addr} {H H' : Hp} {t : Int} (k : Keep dk dl H H') (h : DeckAt H dk dl t) : ∀ a xs, SqT K H a xs → SqT K H' a xs := fun a xs e => by
  obtain ⟨⟨m, h1, _⟩, ⟨cs, h2, _⟩⟩ := h
  rcases e with (e | ⟨o, e⟩) | e
  · exact .inl (.inl (k _ _ (ne_of e h1 (by intro z; cases z)) (ne_of e h2 (by intro z; cases z)) e))
  · exact .inl (.inr ⟨o, k _ _ (ne_of e h1 (by intro z; cases z)) (ne_of e h2 (by intro z; cases z)) e⟩)
  · exact .inr e
def spPickT (K : PySem.W.Frag) : Sp := fun vs H Q _ => ∃ (dk dl s : Addr) (t : Int) (xs : List V), vs = [.ref dk, .ref s] ∧ DeckAt H dk dl t ∧ SqT K H s xs ∧ xs ≠ [] ∧ xs.length ≤ 100 ∧ 0 ≤ t ∧ t ≤ 100000 ∧
  ∀ (y : V) (H' : Hp), y ∈ xs → DeckAt H' dk dl (t + 1) → Keep dk dl H H' → Q y H'
/-- a list at p that grows, all else but the deck standing -/
structure LI (dk dl p : Addr) (H0 H' : Hp) (vs : List V) (ds : List PyData) : Prop where
  at_ : H' p = some (.lst vs)
  ok : DKs (Nw H0 H') vs ds
  keep : ∀ b x, b ≠ dk → b ≠ dl → b ≠ p → H0 b = some x → H' b = some x
theorem LI.step {dk dl p : Addr} {H0 H' H'' : Hp} {vs : List V} {ds : List PyData} {t : Int} (I : LI dk dl p H0 H' vs ds) (D : DeckAt H0 dk dl t) (h1 : p ≠ dk) (h2 : p ≠ dl) (k : Keep dk dl H' H'') : LI dk dl p H0 H'' vs ds :=
  ⟨k _ _ h1 h2 I.at_, DKs.keeps (Nw.mono (fun _ z => z) (k.news D)) _ _ I.ok, fun b x a1 a2 a3 e => k b x a1 a2 (I.keep b x a1 a2 a3 e)⟩
theorem LI.add {dk dl p : Addr} {H0 H' : Hp} {vs : List V} {ds : List PyData} {v : V} {d : PyData} (I : LI dk dl p H0 H' vs ds) (hp : H0 p ≠ none) (h : DK (Nw H0 H') v d) : LI dk dl p H0 (upd H' p (.lst (vs ++ [v]))) (vs ++ [v]) (ds ++ [d]) := by
  have k : ∀ b o, H0 b = none → H' b = some o → upd H' p (.lst (vs ++ [v])) b = some o := fun b o n e => (upd_ne (fun z => hp (by rw [← z]; exact n))).trans e
  exact ⟨upd_same, (DKs.keeps (Nw.mono (fun _ z => z) k) _ _ I.ok).snoc' (DK.keeps (Nw.mono (fun _ z => z) k) _ _ h), fun b x a1 a2 a3 e => (upd_ne a3).trans (I.keep b x a1 a2 a3 e)⟩
/-- what is new beside H0 is new -/
theorem LI.dom {dk dl p : Addr} {H0 H' : Hp} {vs : List V} {ds : List PyData} {t t' : Int} (I : LI dk dl p H0 H' vs ds) (D : DeckAt H0 dk dl t) (D' : DeckAt H' dk dl t') : ∀ b, H' b = none → H0 b = none := fun b e => by
  cases z : H0 b with
  | none => rfl
  | some o =>
    by_cases e1 : b = dk
    · obtain ⟨⟨m, h1, _⟩, _⟩ := D'
      rw [e1, h1] at e
      cases e
    · by_cases e2 : b = dl
      · obtain ⟨_, ⟨cs, h2, _⟩⟩ := D'
        rw [e2, h2] at e
        cases e
      · by_cases e3 : b = p
        · rw [e3, I.at_] at e
          cases e
        · rw [I.keep b o e1 e2 e3 z] at e
          cases e
def W8 : List Str := [PySem.Str.ofString "box", PySem.Str.ofString "half", PySem.Str.ofString "lock", PySem.Str.ofString "mark", PySem.Str.ofString "pair", PySem.Str.ofString "q", PySem.Str.ofString "seal", PySem.Str.ofString "zzzzzzzz"]
def W6 : List Str := [PySem.Str.ofString "ahead", PySem.Str.ofString "first", PySem.Str.ofString "look", PySem.Str.ofString "open", PySem.Str.ofString "second", PySem.Str.ofString "undo"]
def kD (p : Str × Int) : PyData := .tuple [.str p.1, .int p.2]
structure Op where
  w : Str
  k : Str
  g : Int
  n : List PyData
def oD (o : Op) : PyData := .tuple [.str o.w, .str o.k, .int o.g, .tuple o.n]
def singles (ks : List (Str × Int)) : List Str := (ks.filter fun p => decide (p.2 = 1)).map (·.1)
structure OpOk (ks : List (Str × Int)) (o : Op) : Prop where
  ex : ∃ m : Int, (o.k, m) ∈ ks ∧ 0 ≤ o.g ∧ o.g < m ∧ o.n.length ≤ 2 ∧ ∀ d ∈ o.n, NeedOk m (singles ks) d
structure KitOk (ks : List (Str × Int)) (os : List Op) : Prop where
  ne : ks ≠ []
  sub : (ks.map (·.1)).Sublist W8
  num : ∀ p ∈ ks, 1 ≤ p.2 ∧ p.2 ≤ 3
  osub : (os.map (·.w)).Sublist W6
  ops : ∀ o ∈ os, OpOk ks o
def spKit : Sp := fun vs H Q _ => ∃ (dk dl : Addr) (t : Int), vs = [.ref dk] ∧ DeckAt H dk dl t ∧ 0 ≤ t ∧ t ≤ 50000 ∧
  ∀ (r p1 p2 : Addr) (vs ws : List V) (ks : List (Str × Int)) (os : List Op) (t' : Int) (H' : Hp), DeckAt H' dk dl t' → t ≤ t' → t' ≤ t + 100 → Keep dk dl H H' → H r = none → H p1 = none → H p2 = none →
    H' r = some (.tup [.ref p1, .ref p2]) → Fz H' p1 vs → H' p2 = some (.tup ws) → DKs (Nw H H') vs (ks.map kD) → DKs (Nw H H') ws (os.map oD) → KitOk ks os → Q (.ref r) H'
structure TxtK (K : PySem.W.Frag) (mg : Str → Option Value) (fD fP fN : Addr) : Prop extends TxtP K mg fD fP where
  range : mg "range" = none
  tuple : mg "tuple" = none
  gN : mg "_law_need" = some (.ref fN)
  kN : PySem.W.keepIn K (.ref fN) = true
theorem w8_ok : ∀ x ∈ W8, PyData.strOk x = true := by decide +kernel
theorem sub_w8 {ks : List (Str × Int)} (h : (ks.map (·.1)).Sublist W8) : ∀ p ∈ ks, PyData.strOk p.1 = true := fun p hp => w8_ok _ (h.subset (List.mem_map_of_mem hp))
theorem DeckAt.set {dk dl p : Addr} {H : Hp} {t : Int} {o : HO} (h : DeckAt H dk dl t) (h1 : p ≠ dk) (h2 : p ≠ dl) : DeckAt (upd H p o) dk dl t := by
  obtain ⟨⟨m, x1, m0, m1⟩, ⟨cs, x2, l⟩⟩ := h
  exact ⟨⟨m, (upd_ne h1.symm).trans x1, m0, m1⟩, ⟨cs, (upd_ne h2.symm).trans x2, l⟩⟩
theorem LI.keepOf {dk dl p : Addr} {H H0 H' : Hp} {vs : List V} {ds : List PyData} (I : LI dk dl p H0 H' vs ds) (k : Keep dk dl H H0) (hp : H p = none) : Keep dk dl H H' := fun b o h1 h2 e =>
  I.keep b o h1 h2 (fun z => by rw [z, hp] at e; cases e) (k b o h1 h2 e)
theorem dks_at {H : Hp} : ∀ {vs : List V} {ds : List PyData} {i : Nat} {v : V}, DKs H vs ds → vs[i]? = some v → ∃ d, ds[i]? = some d ∧ DK H v d
  | _, _, 0, v, .cons h _, e => ⟨_, rfl, by cases e; exact h⟩
  | _, _, i + 1, v, .cons _ r, e => by
    obtain ⟨d, e1, h1⟩ := dks_at r (i := i) e
    exact ⟨d, e1, h1⟩
theorem dks_mem {H : Hp} {vs : List V} {ds : List PyData} {v : V} (r : DKs H vs ds) (h : v ∈ vs) : ∃ d, d ∈ ds ∧ DK H v d := by
  obtain ⟨i, e⟩ := List.getElem?_of_mem h
  obtain ⟨d, e1, h1⟩ := dks_at r e
  exact ⟨d, List.mem_of_getElem? e1, h1⟩
theorem nw_some {H H' : Hp} : ∀ b o, Nw H H' b = some o → H' b = some o := fun _ _ e => (Nw.of e).2
theorem kd_of {H : Hp} {v : V} {p : Str × Int} (h : DK H v (kD p)) : ∃ a, v = .ref a ∧ H a = some (.tup [.str p.1, .int p.2]) := by
  cases h with
  | tup e r =>
    cases r with
    | cons h1 r =>
      cases r with
      | cons h2 r =>
        cases r
        cases h1
        cases h2
        exact ⟨_, rfl, e⟩
theorem kds_keeps {H H' : Hp} (k : ∀ a x, H a = some (.tup x) → H' a = some (.tup x)) : ∀ (ks : List (Str × Int)) (vs : List V), DKs H vs (ks.map kD) → DKs H' vs (ks.map kD)
  | [], _, h => by cases h; exact .nil
  | c :: cs, _, h => by
    cases h with
    | cons h1 h2 =>
      obtain ⟨a, rfl, e⟩ := kd_of h1
      exact .cons (.tup (k _ _ e) (.cons (.str _) (.cons (.int _) .nil))) (kds_keeps k cs _ h2)
theorem singles_yes {ks : List (Str × Int)} {i : Nat} {p : Str × Int} (h : ks[i]? = some p) (e : p.2 = 1) : singles (ks.take (i + 1)) = singles (ks.take i) ++ [p.1] := by
  unfold singles
  rw [List.take_add_one, h, List.filter_append, List.map_append]
  simp [e]
theorem singles_no {ks : List (Str × Int)} {i : Nat} {p : Str × Int} (h : ks[i]? = some p) (e : p.2 ≠ 1) : singles (ks.take (i + 1)) = singles (ks.take i) := by
  unfold singles
  rw [List.take_add_one, h, List.filter_append, List.map_append]
  simp [e]
theorem singles_len (ks : List (Str × Int)) : (singles ks).length ≤ ks.length := by
  unfold singles
  rw [List.length_map]
  exact List.length_filter_le _ _
theorem singles_mem {ks : List (Str × Int)} {c : Str} (h : c ∈ singles ks) : (c, (1 : Int)) ∈ ks := by
  unfold singles at h
  obtain ⟨p, hp, rfl⟩ := List.mem_map.mp h
  obtain ⟨h1, h2⟩ := List.mem_filter.mp hp
  have := of_decide_eq_true h2
  rw [← this]
  exact h1
theorem kds_lay : ∀ ks : List (Str × Int), (∀ p ∈ ks, PyData.strOk p.1 = true) → PyData.canLayAll0 (ks.map kD) = true
  | [], _ => by simp [PyData.canLayAll0]
  | c :: cs, h => by
    simp only [List.map_cons, PyData.canLayAll0, PyData.canLay0, Bool.and_eq_true, kD]
    exact ⟨⟨h c (List.mem_cons_self ..), trivial, trivial⟩, kds_lay cs fun x hx => h x (List.mem_cons_of_mem _ hx)⟩
theorem kds_dep : ∀ ks : List (Str × Int), PyData.depthAll (ks.map kD) ≤ 1
  | [] => by simp [PyData.depthAll]
  | c :: cs => by
    have := kds_dep cs
    simp only [List.map_cons, PyData.depthAll, PyData.depth, kD]
    omega
theorem kds_shaped {ks : List (Str × Int)} (h : ∀ p ∈ ks, PyData.strOk p.1 = true) : SeqAt.shaped (.list (ks.map kD)) = true := by
  show (PyData.canLay0 (.list (ks.map kD)) && decide (PyData.depth (.list (ks.map kD)) ≤ 64)) = true
  rw [Bool.and_eq_true]
  refine ⟨by simp only [PyData.canLay0]; exact kds_lay ks h, decide_eq_true ?_⟩
  have := kds_dep ks
  simp only [PyData.depth]
  omega
/-- the kinds of the book as they stand once drawn -/
structure Kinds (dk dl : Addr) (H H2 : Hp) (pk : Addr) (vs : List V) (ks : List (Str × Int)) : Prop where
  at_ : H2 pk = some (.lst vs)
  off : H pk = none
  ok : DKs (Nw H H2) vs (ks.map kD)
  ne : ks ≠ []
  sub : (ks.map (·.1)).Sublist W8
  num : ∀ p ∈ ks, 1 ≤ p.2 ∧ p.2 ≤ 3
theorem half_sub : ([((PySem.Str.ofString "half" : Str), (1 : Int))].map (·.1)).Sublist W8 := by
  unfold W8
  exact .cons _ (.cons₂ _ (.cons _ (.cons _ (.cons _ (.cons _ (.cons _ (.cons _ .slnil)))))))
theorem fallback {K : PySem.W.Frag} {dk dl p : Addr} {H H' : Hp} {t tz : Int} {vs : List V} {ks : List (Str × Int)} {σ : L2.St} {G : V → Hp → Prop} (hD : DeckAt H dk dl tz) (hp : H p = none) (e : H' p = some (.lst vs)) (ok : DKs (Nw H H') vs (ks.map kD)) (D' : DeckAt H' dk dl t) (k' : Keep dk dl H H')
    (sub : (ks.map (·.1)).Sublist W8) (num : ∀ p ∈ ks, 1 ≤ p.2 ∧ p.2 ≤ 3) (hσ : σ[1]? = some (some (V.ref p)))
    (h : ∀ pk vs ks H2, Kinds dk dl H H2 pk vs ks → DeckAt H2 dk dl t → Keep dk dl H' H2 → G (.ref pk) H2) :
    tIf (tTest (tOp (rNeD K) (tVar 1) (tLst tNil))) (tVar 1) (tLst (tCons (tTup (tCons (tC (.str (PySem.Str.ofString "half"))) (tCons (tC (.int 1)) tNil))) tNil)) σ H' G := by
  refine ⟨_, hσ, (by show 0 ≤ sizeLine; exact Nat.zero_le _), fun q hq => ?_⟩
  have e1 : upd H' q (.lst []) p = some (.lst vs) := (upd_ne (ne_of_none e hq)).trans e
  have kq : Keep dk dl H' (upd H' q (.lst [])) := Keep.refl.new hq
  have ok1 : DKs (Nw H (upd H' q (.lst []))) vs (ks.map kD) := DKs.keeps (Nw.mono (fun _ z => z) (kq.news hD)) _ _ ok
  refine ⟨_, _, .lst (SqL.of e1) (dks_dp K _ _ (DKs.keeps nw_some _ _ ok1) (kds_lay ks (sub_w8 sub))), .lst (SqL.of upd_same) .nil, kds_shaped (sub_w8 sub), rfl, _, rfl, ?_⟩
  cases ks with
  | nil =>
    refine ite2 (fun z => absurd z (by simp [PyData.eqv, PyData.eqvAll])) (fun _ => ?_)
    refine ⟨(by show 2 ≤ sizeLine; rw [sizeLine_eq]; decide), fun a ha => ⟨(by show 1 ≤ sizeLine; rw [sizeLine_eq]; decide), fun b hb => ?_⟩⟩
    have Da : DeckAt (upd (upd H' q (.lst [])) a (.tup [.str (PySem.Str.ofString "half"), .int 1])) dk dl t := (D'.new hq).new ha
    have Ka := (kq.new ha : Keep dk dl H' (upd (upd H' q (.lst [])) a (.tup [.str (PySem.Str.ofString "half"), .int 1])))
    have na : H a = none := hD.dom (D'.new hq) (k'.trans kq) a ha
    have nb : H b = none := hD.dom Da (k'.trans Ka) b hb
    refine h b [.ref a] [((PySem.Str.ofString "half" : Str), (1 : Int))] _ ⟨upd_same, nb, ?_, List.cons_ne_nil _ _, half_sub, fun p hp => by simp only [List.mem_cons, List.not_mem_nil, or_false] at hp; subst hp; decide⟩ (Da.new hb) (Ka.new hb)
    exact .cons (.tup (Nw.at na ((upd_ne (ne_of_none upd_same hb)).trans upd_same)) (.cons (.str _) (.cons (.int _) .nil))) .nil
  | cons c0 cr =>
    refine ite2 (fun _ => ?_) (fun z => absurd rfl z)
    exact ⟨_, hσ, h p vs (c0 :: cr) _ ⟨e1, hp, ok1, List.cons_ne_nil _ _, sub, num⟩ (D'.new hq) kq⟩
def WW : List Str := [PySem.Str.ofString "a", PySem.Str.ofString "around", PySem.Str.ofString "box", PySem.Str.ofString "half", PySem.Str.ofString "inside", PySem.Str.ofString "k", PySem.Str.ofString "part", PySem.Str.ofString "z", PySem.Str.ofString "zzzzzzzz", PySem.Str.ofString "word", PySem.Str.ofString "make", PySem.Str.ofString "lock", PySem.Str.ofString "mark", PySem.Str.ofString "pair", PySem.Str.ofString "seal", PySem.Str.ofString "sign", PySem.Str.ofString "first", PySem.Str.ofString "open", PySem.Str.ofString "second", PySem.Str.ofString "shown", PySem.Str.ofString "signed", PySem.Str.ofString "unseal"]
def ABC : Str := PySem.Str.ofString "abcdefghijklmnopqrstuvwxyz"
theorem ww_len : ∀ x ∈ WW, 1 ≤ x.length ∧ x.length ≤ 8 := by decide +kernel
theorem ww_abc : ∀ x ∈ WW, ∀ c ∈ x.cps.toList, c ∈ ABC.cps.toList := by decide +kernel
def spWord : Sp := fun vs H Q _ => ∃ x, x ∈ WW ∧ vs = [.str x] ∧ ∀ H', Same H H' → Q (.bl true) H'
structure TxtW (mg : Str → Option Value) : Prop where
  isi : mg "isinstance" = none
  str : mg "str" = none
  int : mg "int" = none
  bool : mg "bool" = none
  tuple : mg "tuple" = none
  len : mg "len" = none
  all : mg "all" = none
  zip : mg "zip" = none
  dict : mg "dict" = none
  longest : ∃ u, mg "LONGEST" = some u ∧ RelV (.int 8) u
  letters : ∃ u, mg "LETTERS" = some u ∧ RelV (.str ABC) u
theorem rep_all (n : Nat) : (List.replicate n true).all id = true := by
  induction n with
  | zero => rfl
  | succ n ih => rw [List.replicate_succ, List.all_cons, ih]; rfl
theorem rep_snoc (n : Nat) : (List.replicate (n + 1) true).map V.bl = (List.replicate n true).map V.bl ++ [V.bl true] := by
  rw [List.replicate_succ', List.map_append]
  rfl
def spInt : Sp := fun vs H Q _ => ∃ v lo hi : Int, vs = [.int v, .int lo, .int hi] ∧ lo ≤ v ∧ v ≤ hi ∧ Q (.bl true) H
theorem cut1 (xs : List V) : cutV xs (some 1) none = xs.drop 1 := by
  unfold cutV HT.sIx
  cases xs with
  | nil => rfl
  | cons x r => simp
def Asc (ws : List Str) : Prop := ∀ (i : Nat) (a b : Str), ws[i]? = some a → ws[i + 1]? = some b → a.cps.toList < b.cps.toList
def spAsc : Sp := fun vs H Q _ => ∃ (p : Addr) (ws : List Str), vs = [.ref p] ∧ H p = some (.lst (ws.map V.str)) ∧ ws.length ≤ 1000 ∧ Asc ws ∧ ∀ H', Same H H' → Q (.bl true) H'
theorem sqT_same {K : PySem.W.Frag} {H H' : Hp} {a : Addr} {xs : List V} (k : Same H H') (h : SqT K H a xs) : SqT K H' a xs := by
  rcases h with (h | ⟨o, h⟩) | h
  · exact .inl (.inl (k _ _ h))
  · exact .inl (.inr ⟨o, k _ _ h⟩)
  · exact .inr h
theorem tupN_same {K : PySem.W.Frag} {H H' : Hp} {a : Addr} {xs : List V} (k : Same H H') (h : TupN K H a xs) : TupN K H' a xs := by
  rcases h with ⟨o, e, d⟩ | ⟨h, r⟩
  · exact .inl ⟨o, k _ _ e, d⟩
  · exact .inr ⟨sqT_same k h, r⟩
theorem sqT_ty {K : PySem.W.Frag} {H : Hp} {a : Addr} {xs : List V} (h : SqT K H a xs) : TyX K H (.ref a) (.type "tuple") := by
  rcases h with (h | ⟨o, h⟩) | ⟨o, its, n, e, c, _⟩
  · exact .base (.tup h)
  · exact .fTuple h
  · exact .kTuple e c
/-- kinds with their numbers, wherever they stand -/
structure KindsAt (K : PySem.W.Frag) (H : Hp) (kk : Addr) (ps : List Addr) (ks : List (Str × Int)) : Prop where
  at_ : TupN K H kk (ps.map V.ref)
  each : Paired (fun a p => SqT K H a [.str p.1, .int p.2]) ps ks
theorem paired_at {α β : Type} {R : α → β → Prop} : ∀ {as : List α} {bs : List β} {i : Nat} {a : α}, Paired R as bs → as[i]? = some a → ∃ b, bs[i]? = some b ∧ R a b
  | _, _, 0, a, .cons h _, e => ⟨_, rfl, by cases e; exact h⟩
  | _, _, i + 1, a, .cons _ r, e => by
    obtain ⟨b, e1, h1⟩ := paired_at r (i := i) e
    exact ⟨b, e1, h1⟩
theorem paired_mono {α β : Type} {R S : α → β → Prop} (f : ∀ a b, R a b → S a b) : ∀ {as : List α} {bs : List β}, Paired R as bs → Paired S as bs
  | _, _, .nil => .nil
  | _, _, .cons h r => .cons (f _ _ h) (paired_mono f r)
theorem KindsAt.same {K : PySem.W.Frag} {H H' : Hp} {kk : Addr} {ps : List Addr} {ks : List (Str × Int)} (h : KindsAt K H kk ps ks) (k : Same H H') : KindsAt K H' kk ps ks :=
  ⟨tupN_same k h.at_, paired_mono (fun _ _ => sqT_same k) h.each⟩
theorem KindsAt.len {K : PySem.W.Frag} {H : Hp} {kk : Addr} {ps : List Addr} {ks : List (Str × Int)} (h : KindsAt K H kk ps ks) : ps.length = ks.length := h.each.length
/-- what is asked of kinds -/
structure KsOk (ks : List (Str × Int)) : Prop where
  ne : ks ≠ []
  ww : ∀ p ∈ ks, p.1 ∈ WW
  num : ∀ p ∈ ks, 1 ≤ p.2 ∧ p.2 ≤ 3
  asc : Asc (ks.map (·.1))
  nd : (ks.map (·.1)).Nodup
  len : ks.length ≤ 20
/-- the numbers of parts as a dict tells them -/
def Cnt (H : Hp) (cd : Addr) (ks : List (Str × Int)) : Prop := ∃ kvs : List (Key × V), H cd = some (.dK kvs) ∧ (∀ p ∈ ks, valV kvs (.inr p.1) = some (.int p.2)) ∧ ∀ c, c ∉ ks.map (·.1) → valV kvs (.inr c) = none
theorem Cnt.same {H H' : Hp} {cd : Addr} {ks : List (Str × Int)} (h : Cnt H cd ks) (k : Same H H') : Cnt H' cd ks := let ⟨kvs, e, r⟩ := h; ⟨kvs, k _ _ e, r⟩
abbrev kvOf (p : Str × Int) : Key × V := (.inr p.1, .int p.2)
theorem merge_no {c : Str} : ∀ (ks : List (Str × Int)) (acc : List (Key × V)), c ∉ ks.map (·.1) → valV (mergeK acc (ks.map kvOf)) (.inr c) = valV acc (.inr c)
  | [], _, _ => rfl
  | p :: r, acc, h => by
    rw [List.map_cons, List.mem_cons, not_or] at h
    show valV (mergeK (putK acc (Sum.inr p.1) (.int p.2)) (r.map kvOf)) (.inr c) = _
    rw [merge_no r _ h.2, valV_put, if_neg]
    intro z
    injection z with z
    exact h.1 z
theorem merge_yes {p : Str × Int} : ∀ (ks : List (Str × Int)) (acc : List (Key × V)), (ks.map (·.1)).Nodup → p ∈ ks → valV (mergeK acc (ks.map kvOf)) (.inr p.1) = some (.int p.2)
  | [], _, _, h => (List.not_mem_nil h).elim
  | q :: r, acc, nd, h => by
    rw [List.map_cons, List.nodup_cons] at nd
    show valV (mergeK (putK acc (Sum.inr q.1) (.int q.2)) (r.map kvOf)) (.inr p.1) = _
    rcases List.mem_cons.mp h with rfl | h
    · rw [merge_no r _ nd.1, valV_put, if_pos rfl]
    · exact merge_yes r _ nd.2 h
theorem cnt_new {H : Hp} {cd : Addr} {ks : List (Str × Int)} (nd : (ks.map (·.1)).Nodup) : Cnt (upd H cd (.dK (mergeK [] (ks.map kvOf)))) cd ks :=
  ⟨_, upd_same, fun _ hp => merge_yes ks [] nd hp, fun _ hc => by rw [merge_no ks [] hc]; rfl⟩
theorem paired_kv {K : PySem.W.Frag} {H : Hp} : ∀ {ps : List Addr} {ks : List (Str × Int)}, Paired (fun a p => SqT K H a [.str p.1, .int p.2]) ps ks → Paired (fun p kv => SqT K H p [kV kv.1, kv.2]) ps (ks.map kvOf)
  | _, _, .nil => .nil
  | _, _, .cons h r => .cons h (paired_kv r)
/-- what the defs of the book need of the text -/
structure TxtB (K : PySem.W.Frag) (mg : Str → Option Value) (fW fI fA : Addr) : Prop extends TxtW mg where
  gW : mg "is_word" = some (.ref fW)
  kW : PySem.W.keepIn K (.ref fW) = true
  gI : mg "_is_integer" = some (.ref fI)
  kI : PySem.W.keepIn K (.ref fI) = true
  gA : mg "ascends" = some (.ref fA)
  kA : PySem.W.keepIn K (.ref fA) = true
  mostP : ∃ u, mg "MOST_PARTS" = some u ∧ RelV (.int 3) u
  mostN : ∃ u, mg "MOST_NEEDS" = some u ∧ RelV (.int 2) u
/-- the three defs below -/
structure Lows (P : Program) (w : World) (K : PySem.W.Frag) (mg : Str → Option Value) (base : Heap) (fW fI fA : Addr) (dW dI dA : FuncData) : Prop where
  W : FnOk P w K mg base CX0 1 fW dW ["thing"] spWord
  bW : Binds K dW ["thing"] []
  I : FnOk P w K mg base CX0 1 fI dI ["value", "low", "high"] spInt
  bI : Binds K dI ["value", "low", "high"] []
  A : FnOk P w K mg base CX0 1 fA dA ["texts"] spAsc
  bA : Binds K dA ["texts"] []
def spKindQ (K : PySem.W.Frag) : Sp := fun vs H Q _ => ∃ (a : Addr) (c : Str) (m : Int), vs = [.ref a] ∧ SqT K H a [.str c, .int m] ∧ c ∈ WW ∧ 1 ≤ m ∧ m ≤ 3 ∧ ∀ H', Same H H' → Q (.bl true) H'
def spKinds (K : PySem.W.Frag) : Sp := fun vs H Q _ => ∃ (kk : Addr) (ps : List Addr) (ks : List (Str × Int)), vs = [.ref kk] ∧ KindsAt K H kk ps ks ∧ KsOk ks ∧ ∀ H', Same H H' → Q (.bl true) H'
inductive Nd where
  | part (j : Int)
  | around (c : Str) (j : Int)
  | inside (j : Int) (c : Str)
def ndV : Nd → List V
  | .part j => [.str (PySem.Str.ofString "part"), .int j]
  | .around c j => [.str (PySem.Str.ofString "around"), .str c, .int j]
  | .inside j c => [.str (PySem.Str.ofString "inside"), .int j, .str c]
def ndD : Nd → PyData
  | .part j => .tuple [.str (PySem.Str.ofString "part"), .int j]
  | .around c j => .tuple [.str (PySem.Str.ofString "around"), .str c, .int j]
  | .inside j c => .tuple [.str (PySem.Str.ofString "inside"), .int j, .str c]
def NdOk (m : Int) (ks : List (Str × Int)) : Nd → Prop
  | .part j => 0 ≤ j ∧ j < m
  | .around c j => (c, (1 : Int)) ∈ ks ∧ 0 ≤ j ∧ j < m
  | .inside j c => (c, (1 : Int)) ∈ ks ∧ 0 ≤ j ∧ j < m
structure Opn where
  w : Str
  k : Str
  g : Int
  nn : List Nd
def OpnAt (K : PySem.W.Frag) (H : Hp) (a : Addr) (o : Opn) : Prop := ∃ (b : Addr) (as : List Addr), SqT K H a [.str o.w, .str o.k, .int o.g, .ref b] ∧ SqT K H b (as.map V.ref) ∧ Paired (fun x n => SqT K H x (ndV n)) as o.nn
theorem OpnAt.same {K : PySem.W.Frag} {H H' : Hp} {a : Addr} {o : Opn} (k : Same H H') (h : OpnAt K H a o) : OpnAt K H' a o :=
  let ⟨b, as, h1, h2, h3⟩ := h
  ⟨b, as, sqT_same k h1, sqT_same k h2, paired_mono (fun _ _ => sqT_same k) h3⟩
structure OpnsAt (K : PySem.W.Frag) (H : Hp) (oo : Addr) (as : List Addr) (os : List Opn) : Prop where
  at_ : SqT K H oo (as.map V.ref)
  each : Paired (OpnAt K H) as os
theorem OpnsAt.same {K : PySem.W.Frag} {H H' : Hp} {oo : Addr} {as : List Addr} {os : List Opn} (h : OpnsAt K H oo as os) (k : Same H H') : OpnsAt K H' oo as os :=
  ⟨sqT_same k h.at_, paired_mono (fun _ _ => OpnAt.same k) h.each⟩
structure OpnOk (ks : List (Str × Int)) (o : Opn) : Prop where
  ww : o.w ∈ WW
  out : o.w ∉ ks.map (·.1)
  ex : ∃ m : Int, (o.k, m) ∈ ks ∧ 0 ≤ o.g ∧ o.g < m ∧ o.nn.length ≤ 2 ∧ ∀ n ∈ o.nn, NdOk m ks n
structure OsOk (ks : List (Str × Int)) (os : List Opn) : Prop where
  each : ∀ o ∈ os, OpnOk ks o
  asc : Asc (os.map (·.w))
  len : os.length ≤ 20
def spOne : Sp := fun vs H Q _ => ∃ (cd : Addr) (c : Str) (ks : List (Str × Int)), vs = [.ref cd, .str c] ∧ Cnt H cd ks ∧ (c, (1 : Int)) ∈ ks ∧ c ∈ WW ∧ ∀ H', Same H H' → Q (.bl true) H'
def spNeedQ (K : PySem.W.Frag) : Sp := fun vs H Q _ => ∃ (cd a : Addr) (m : Int) (n : Nd) (ks : List (Str × Int)), vs = [.ref cd, .int (m - 1), .ref a] ∧ Cnt H cd ks ∧ (∀ p ∈ ks, p.1 ∈ WW) ∧ SqT K H a (ndV n) ∧ NdOk m ks n ∧ ∀ H', Same H H' → Q (.bl true) H'
def spOpenQ (K : PySem.W.Frag) : Sp := fun vs H Q _ => ∃ (cd a : Addr) (o : Opn) (ks : List (Str × Int)), vs = [.ref cd, .ref a] ∧ Cnt H cd ks ∧ (∀ p ∈ ks, p.1 ∈ WW) ∧ OpnAt K H a o ∧ OpnOk ks o ∧ ∀ H', Same H H' → Q (.bl true) H'
def spOpens (K : PySem.W.Frag) : Sp := fun vs H Q _ => ∃ (cd oo : Addr) (as : List Addr) (os : List Opn) (ks : List (Str × Int)), vs = [.ref cd, .ref oo] ∧ Cnt H cd ks ∧ (∀ p ∈ ks, p.1 ∈ WW) ∧ OpnsAt K H oo as os ∧ OsOk ks os ∧ ∀ H', Same H H' → Q (.bl true) H'
abbrev fsB (kk oo : Addr) : List (Str × V) := [(PySem.Str.ofString "kinds", .ref kk), (PySem.Str.ofString "openings", .ref oo)]
def spInit (K : PySem.W.Frag) (C : Addr) : Sp := fun vs H Q _ => ∃ (x dx kk oo : Addr) (ps as : List Addr) (ks : List (Str × Int)) (os : List Opn), vs = [.ref x, .ref kk, .ref oo] ∧ H x = some (.ins C dx []) ∧ KindsAt K H kk ps ks ∧ KsOk ks ∧ OpnsAt K H oo as os ∧ OsOk ks os ∧
  ∀ H', (∀ b o, b ≠ x → H b = some o → H' b = some o) → H' x = some (.ins C dx (fsB kk oo)) → Q .non H'
structure TxtI (K : PySem.W.Frag) (mg : Str → Option Value) (C fKs fOs : Addr) : Prop where
  cl : Cls K C
  nK : NoAttr K C "kinds"
  nO : NoAttr K C "openings"
  gKs : mg "_are_kinds" = some (.ref fKs)
  kKs : PySem.W.keepIn K (.ref fKs) = true
  gOs : mg "_are_openings" = some (.ref fOs)
  kOs : PySem.W.keepIn K (.ref fOs) = true
theorem ps_dead {X : Cx} {st : Stmt} : PS X st (fun _ _ _ => False) := ⟨fun _ _ _ _ _ _ h => h.elim⟩
abbrev kS : Key := Sum.inr (PySem.Str.ofString "sorts")
abbrev kW : Key := Sum.inr (PySem.Str.ofString "ways")
def worldD (s y : Addr) : List (Key × V) := [(kS, .ref s), (kW, .ref y)]
theorem neSW : ¬ kS = kW := by decide +kernel
theorem wMerged {s y : Addr} : mergeK [] (worldD s y) = worldD s y := by
  have e : ¬ PySem.Str.ofString "sorts" = PySem.Str.ofString "ways" := fun q => neSW (congrArg Sum.inr q)
  simp [mergeK, worldD, putK, e]
theorem gS {H : Hp} {w s y : Addr} (h : H w = some (.dK (worldD s y))) : DGet H w (.str (PySem.Str.ofString "sorts")) (some (.ref s)) := by
  have q := DGet.k (k := kS) h
  rw [show valV (worldD s y) kS = some (.ref s) from valV_pos rfl] at q
  exact q
theorem gW {H : Hp} {w s y : Addr} (h : H w = some (.dK (worldD s y))) : DGet H w (.str (PySem.Str.ofString "ways")) (some (.ref y)) := by
  have q := DGet.k (k := kW) h
  rw [show valV (worldD s y) kW = some (.ref y) from (valV_neg neSW).trans (valV_pos rfl)] at q
  exact q
structure WorldAt (K : PySem.W.Frag) (H : Hp) (w : Addr) (ks : List (Str × Int)) (os : List Opn) : Prop where
  ex : ∃ (s y : Addr) (ps as : List Addr), H w = some (.dK (worldD s y)) ∧ KindsAt K H s ps ks ∧ OpnsAt K H y as os
  kok : KsOk ks
  ook : OsOk ks os
theorem WorldAt.same {K : PySem.W.Frag} {H H' : Hp} {w : Addr} {ks : List (Str × Int)} {os : List Opn} (h : WorldAt K H w ks os) (k : Same H H') : WorldAt K H' w ks os :=
  let ⟨s, y, ps, as, h1, h2, h3⟩ := h.ex
  ⟨⟨s, y, ps, as, k _ _ h1, h2.same k, h3.same k⟩, h.kok, h.ook⟩
theorem ks_keep {K : PySem.W.Frag} {H H' : Hp} {dk dl kk : Addr} {t : Int} {ps : List Addr} {ks : List (Str × Int)} (D : DeckAt H dk dl t) (k : Keep dk dl H H') (h : KindsAt K H kk ps ks) : KindsAt K H' kk ps ks := by
  refine ⟨?_, paired_mono (fun a _ => k.kt D a _) h.each⟩
  rcases h.at_ with ⟨o, e, d⟩ | ⟨h, r⟩
  · obtain ⟨⟨_, h1, _⟩, ⟨_, h2, _⟩⟩ := D
    exact .inl ⟨o, k _ _ (ne_of e h1 (by intro z; cases z)) (ne_of e h2 (by intro z; cases z)) e, d⟩
  · exact .inr ⟨k.kt D _ _ h, r⟩
theorem os_keep {K : PySem.W.Frag} {H H' : Hp} {dk dl oo : Addr} {t : Int} {as : List Addr} {os : List Opn} (D : DeckAt H dk dl t) (k : Keep dk dl H H') (h : OpnsAt K H oo as os) : OpnsAt K H' oo as os :=
  ⟨k.kt D _ _ h.at_, paired_mono (fun _ _ ⟨b, bs, h1, h2, h3⟩ => ⟨b, bs, k.kt D _ _ h1, k.kt D _ _ h2, paired_mono (fun a _ => k.kt D a _) h3⟩) h.each⟩
def LtT (a b : Str) : Prop := a.cps.toList < b.cps.toList
instance : DecidableRel LtT := fun a b => inferInstanceAs (Decidable (a.cps.toList < b.cps.toList))
theorem asc_of {l : List Str} (h : l.Pairwise LtT) : Asc l := fun i a b ha hb => by
  have := List.pairwise_iff_getElem.mp h
  obtain ⟨h1, e1⟩ := List.getElem?_eq_some_iff.mp ha
  obtain ⟨h2, e2⟩ := List.getElem?_eq_some_iff.mp hb
  have q := this i (i + 1) h1 h2 (Nat.lt_succ_self _)
  rw [e1, e2] at q
  exact q
def stdKs : List (Str × Int) := [(PySem.Str.ofString "half", 1), (PySem.Str.ofString "lock", 2), (PySem.Str.ofString "mark", 1), (PySem.Str.ofString "pair", 2), (PySem.Str.ofString "seal", 2), (PySem.Str.ofString "sign", 2)]
def stdOs : List Opn := [⟨PySem.Str.ofString "first", PySem.Str.ofString "pair", 0, []⟩, ⟨PySem.Str.ofString "open", PySem.Str.ofString "lock", 0, [.part 1]⟩, ⟨PySem.Str.ofString "second", PySem.Str.ofString "pair", 1, []⟩, ⟨PySem.Str.ofString "shown", PySem.Str.ofString "sign", 0, []⟩,
  ⟨PySem.Str.ofString "signed", PySem.Str.ofString "sign", 0, [.around (PySem.Str.ofString "half") 1]⟩, ⟨PySem.Str.ofString "unseal", PySem.Str.ofString "seal", 0, [.inside 1 (PySem.Str.ofString "half")]⟩]
theorem std_ks : KsOk stdKs := ⟨by decide +kernel, by decide +kernel, by decide +kernel, asc_of (by decide +kernel), by decide +kernel, by decide +kernel⟩
theorem std_os : OsOk stdKs stdOs := by
  refine ⟨fun o ho => ?_, asc_of (by decide +kernel), by decide +kernel⟩
  simp only [stdOs, List.mem_cons, List.not_mem_nil, or_false] at ho
  have no : ∀ {m : Int}, ∀ n ∈ ([] : List Nd), NdOk m stdKs n := fun _ z => (List.not_mem_nil z).elim
  have one : ∀ {m : Int} {n0 : Nd}, NdOk m stdKs n0 → ∀ n ∈ [n0], NdOk m stdKs n := fun h n hn => by
    rw [List.mem_singleton.mp hn]
    exact h
  rcases ho with rfl | rfl | rfl | rfl | rfl | rfl
  · exact ⟨by decide +kernel, by decide +kernel, 2, by decide +kernel, by decide, by decide, by decide, no⟩
  · exact ⟨by decide +kernel, by decide +kernel, 2, by decide +kernel, by decide, by decide, by decide, one ⟨by decide, by decide⟩⟩
  · exact ⟨by decide +kernel, by decide +kernel, 2, by decide +kernel, by decide, by decide, by decide, no⟩
  · exact ⟨by decide +kernel, by decide +kernel, 2, by decide +kernel, by decide, by decide, by decide, no⟩
  · exact ⟨by decide +kernel, by decide +kernel, 2, by decide +kernel, by decide, by decide, by decide, one ⟨by decide +kernel, by decide, by decide⟩⟩
  · exact ⟨by decide +kernel, by decide +kernel, 2, by decide +kernel, by decide, by decide, by decide, one ⟨by decide +kernel, by decide, by decide⟩⟩
def spTold (K : PySem.W.Frag) : Sp := fun vs H Q _ => vs = [] ∧ ∀ (w : Addr) (H' : Hp), Same H H' → H w = none → WorldAt K H' w stdKs stdOs → Q (.ref w) H'
structure TxtTB (mg : Str → Option Value) : Prop where
  tuple : mg "tuple" = none
/-- every tuple stays -/
def KTu (K : PySem.W.Frag) (H H' : Hp) : Prop := ∀ a xs, SqT K H a xs → SqT K H' a xs
theorem KTu.refl {K : PySem.W.Frag} {H : Hp} : KTu K H H := fun _ _ h => h
theorem KTu.tr {K : PySem.W.Frag} {H H1 H2 : Hp} (a : KTu K H H1) (b : KTu K H1 H2) : KTu K H H2 := fun p xs h => b p xs (a p xs h)
theorem kt_same {K : PySem.W.Frag} {H H' : Hp} (s : Same H H') : KTu K H H' := fun a xs h => by
  rcases h with (e | ⟨o, e⟩) | h
  · exact .inl (.inl (s _ _ e))
  · exact .inl (.inr ⟨o, s _ _ e⟩)
  · exact .inr h
theorem kt_new {K : PySem.W.Frag} {H : Hp} {p : Addr} {o : HO} (h : H p = none) : KTu K H (upd H p o) := kt_same fun b u e => (upd_ne (ne_of_none e h)).trans e
theorem kt_lst {K : PySem.W.Frag} {H : Hp} {p : Addr} {xs ys : List V} (h : H p = some (.lst xs)) : KTu K H (upd H p (.lst ys)) := fun a zs e => by
  rcases e with (e | ⟨o, e⟩) | e
  · exact .inl (.inl ((upd_ne (ne_of e h (by intro z; cases z))).trans e))
  · exact .inl (.inr ⟨o, (upd_ne (ne_of e h (by intro z; cases z))).trans e⟩)
  · exact .inr e
mutual
theorem th_kt {K : PySem.W.Frag} {H H' : Hp} (k : KTu K H H') : ∀ (d : PyData) (v : V), thing d = true → Dp K H v d → Dp K H' v d
  | .str x, _, _, h => by cases h; exact .str x
  | .tuple (.str c :: d :: ds), _, t, h => by
    have t' : thing d = true ∧ thingAll ds = true := by simpa [thing] using t
    cases h with
    | tup e r =>
      cases r with
      | cons h1 r =>
        cases h1
        cases r with
        | cons h2 r => exact .tup (k _ _ e) (.cons (.str _) (.cons (th_kt k d _ t'.1 h2) (ths_kt k ds _ t'.2 r)))
  | .none, _, t, _ => by simp [thing] at t
  | .bool _, _, t, _ => by simp [thing] at t
  | .int _, _, t, _ => by simp [thing] at t
  | .list _, _, t, _ => by simp [thing] at t
  | .dict _, _, t, _ => by simp [thing] at t
  | .tuple [], _, t, _ => by simp [thing] at t
  | .tuple [d], _, t, _ => by cases d <;> simp [thing] at t
  | .tuple (.none :: _ :: _), _, t, _ => by simp [thing] at t
  | .tuple (.bool _ :: _ :: _), _, t, _ => by simp [thing] at t
  | .tuple (.int _ :: _ :: _), _, t, _ => by simp [thing] at t
  | .tuple (.list _ :: _ :: _), _, t, _ => by simp [thing] at t
  | .tuple (.tuple _ :: _ :: _), _, t, _ => by simp [thing] at t
  | .tuple (.dict _ :: _ :: _), _, t, _ => by simp [thing] at t
theorem ths_kt {K : PySem.W.Frag} {H H' : Hp} (k : KTu K H H') : ∀ (ds : List PyData) (vs : List V), thingAll ds = true → DpAll K H vs ds → DpAll K H' vs ds
  | [], _, _, h => by cases h; exact .nil
  | d :: ds, _, t, h => by
    have t' : thing d = true ∧ thingAll ds = true := by simpa [thingAll] using t
    cases h with
    | cons h1 h2 => exact .cons (th_kt k d _ t'.1 h1) (ths_kt k ds _ t'.2 h2)
end
theorem dps_len {K : PySem.W.Frag} {H : Hp} : ∀ {vs : List V} {ds : List PyData}, DpAll K H vs ds → vs.length = ds.length
  | _, _, .nil => rfl
  | _, _, .cons _ r => by rw [List.length_cons, List.length_cons, dps_len r]
theorem dps_app {K : PySem.W.Frag} {H : Hp} : ∀ {vs ws : List V} {ds es : List PyData}, DpAll K H vs ds → DpAll K H ws es → DpAll K H (vs ++ ws) (ds ++ es)
  | _, _, _, _, .nil, h => h
  | _, _, _, _, .cons a r, h => .cons a (dps_app r h)
theorem dps_at {K : PySem.W.Frag} {H : Hp} : ∀ {vs : List V} {ds : List PyData} {i : Nat} {d : PyData}, DpAll K H vs ds → ds[i]? = some d → ∃ v, vs[i]? = some v ∧ Dp K H v d
  | _, _, 0, d, .cons h _, e => ⟨_, rfl, by cases e; exact h⟩
  | _, _, i + 1, d, .cons _ r, e => by
    obtain ⟨v, e1, h1⟩ := dps_at r (i := i) e
    exact ⟨v, e1, h1⟩
/-- a thing that stands, by its two shapes -/
theorem th_cases {K : PySem.W.Frag} {H : Hp} {v : V} {d : PyData} (t : thing d = true) (h : Dp K H v d) :
    (∃ c, d = .str c ∧ v = .str c) ∨ ∃ (a : Addr) (c : Str) (ws : List V) (ps : List PyData), d = .tuple (.str c :: ps) ∧ v = .ref a ∧ SqT K H a (.str c :: ws) ∧ DpAll K H ws ps ∧ ps ≠ [] ∧ ∀ p ∈ ps, thing p = true := by
  rcases thing_cases t with ⟨c, rfl⟩ | ⟨c, ps, rfl, ne, e⟩
  · cases h
    exact .inl ⟨c, rfl, rfl⟩
  · cases h with
    | tup e1 r =>
      cases r with
      | cons h1 r =>
        cases h1
        exact .inr ⟨_, c, _, ps, rfl, rfl, e1, r, ne, e⟩
theorem sqT_ty' {K : PySem.W.Frag} {H : Hp} {a : Addr} {xs : List V} (h : SqT K H a xs) : TyX K H (.ref a) (.type "tuple") := by
  rcases h with (h | ⟨o, h⟩) | ⟨o, its, n, e, c, _⟩
  · exact .base (.tup h)
  · exact .fTuple h
  · exact .kTuple e c
/-- the number in a slot -/
def slotN (σ : L2.St) (i : Nat) : Nat := match σ[i]? with
  | some (some (V.int n)) => n.toNat
  | _ => 0
structure TxtPc (mg : Str → Option Value) : Prop where
  list : mg "list" = none
  len : mg "len" = none
  isi : mg "isinstance" = none
  tuple : mg "tuple" = none
def spPieces (K : PySem.W.Frag) : Sp := fun vs H Q _ => ∃ (a : Addr) (ws : List V) (ts : List PyData), vs = [.ref a] ∧ (SqL K H a ws ∨ SqT K H a ws) ∧ DpAll K H ws ts ∧ (∀ t ∈ ts, thing t = true) ∧ (ts.flatMap lot).length ≤ 10000 ∧
  ∀ (p : Addr) (P : List PyData) (us : List V) (H' : Hp), Same H H' → H p = none → H' p = some (.lst us) → DpAll K H' us P → Bfs ts P → Q (.ref p) H'
abbrev nPieces : List Str := ["things", "pieces", "at", "piece"]
theorem cut1' (c : V) (ws : List V) : cutV (c :: ws) (some 1) none = ws := by
  unfold cutV
  have e : HT.sIx (c :: ws).length 0 (some 1) = 1 := by
    simp [HT.sIx]
  have e2 : HT.sIx (c :: ws).length (c :: ws).length none = ws.length + 1 := by
    simp [HT.sIx]
  rw [e, e2]
  simp
abbrev lw (s : String) : Str := PySem.Str.ofString s
theorem ww_ok : ∀ x ∈ WW, PyData.strOk x = true := by decide +kernel
def spNeedW (K : PySem.W.Frag) : Sp := fun vs H Q _ => ∃ (dk dl s : Addr) (t m : Int) (ps : List Addr) (ks : List (Str × Int)), vs = [.ref dk, .ref s, .int m] ∧ DeckAt H dk dl t ∧ s ≠ dl ∧ H s = some (.lst (ps.map V.ref)) ∧ Paired (fun a p => SqT K H a [.str p.1, .int p.2]) ps ks ∧ ks.length ≤ 8 ∧ 1 ≤ m ∧ m ≤ 3 ∧ (∀ p ∈ ks, p.1 ∈ WW) ∧ 0 ≤ t ∧ t ≤ 90000 ∧
  ∀ (q : Addr) (n : Nd) (t' : Int) (H' : Hp), DeckAt H' dk dl t' → t ≤ t' → t' ≤ t + 4 → Keep dk dl H H' → SqT K H' q (ndV n) → NdOk m ks n → Q (.ref q) H'
structure TxtDP (K : PySem.W.Frag) (mg : Str → Option Value) (fD fP : Addr) : Prop where
  d : mg "_law_draw" = some (.ref fD)
  kd : PySem.W.keepIn K (.ref fD) = true
  p : mg "_law_pick" = some (.ref fP)
  kp : PySem.W.keepIn K (.ref fP) = true
theorem singles_take {ks : List (Str × Int)} {i : Nat} {p : Str × Int} (h : ks[i]? = some p) : singles (ks.take (i + 1)) = singles (ks.take i) ++ (if p.2 = 1 then [p.1] else []) := by
  by_cases e : p.2 = 1
  · rw [if_pos e]
    exact singles_yes h e
  · rw [if_neg e, List.append_nil]
    exact singles_no h e
abbrev nNeedW : List Str := ["_law_deck_here", "_law_sorts", "_law_many", "_law_lone", "_law_at", "_law_label", "_law_count"]
abbrev POOL : List Str := [lw "a", lw "around", lw "box", lw "half", lw "inside", lw "k", lw "part", lw "z", lw "zzzzzzzz", lw "word", lw "make"]
structure TxtWo (K : PySem.W.Frag) (mg : Str → Option Value) (fD fP fN fT : Addr) : Prop extends TxtDP K mg fD fP where
  len : mg "len" = none
  range : mg "range" = none
  tuple : mg "tuple" = none
  sorted : mg "sorted" = none
  n : mg "_law_need" = some (.ref fN)
  kn : PySem.W.keepIn K (.ref fN) = true
  t : mg "_law_told_book" = some (.ref fT)
  kt : PySem.W.keepIn K (.ref fT) = true
def spWorld (K : PySem.W.Frag) : Sp := fun vs H Q _ => ∃ (dk dl : Addr) (t : Int), vs = [.ref dk] ∧ DeckAt H dk dl t ∧ 0 ≤ t ∧ t ≤ 50000 ∧
  ∀ (w : Addr) (ks : List (Str × Int)) (os : List Opn) (t' : Int) (H' : Hp), DeckAt H' dk dl t' → t ≤ t' → t' ≤ t + 100 → Keep dk dl H H' → WorldAt K H' w ks os → Q (.ref w) H'
theorem deck_same {H H' : Hp} {dk dl : Addr} {t : Int} (D : DeckAt H dk dl t) (k : Same H H') : DeckAt H' dk dl t := by
  obtain ⟨⟨m, x1, y1, z1⟩, ⟨cs, x2, y2⟩⟩ := D
  exact ⟨⟨m, k _ _ x1, y1, z1⟩, ⟨cs, k _ _ x2, y2⟩⟩
theorem same_keep {H H' : Hp} {dk dl : Addr} (k : Same H H') : Keep dk dl H H' := fun _ _ _ _ z => k _ _ z
theorem keep_off {dk dl p : Addr} {H G : Hp} {o : HO} (k : Keep dk dl H G) (np : H p = none) : Keep dk dl H (upd G p o) := fun c u h1 h2 e => (upd_ne (ne_of_none e np)).trans (k c u h1 h2 e)
theorem seq_at {r : Int} {n : Nat} (h0 : 0 ≤ r) (h1 : r < (n : Int)) : seqIndex? r n = some r.toNat := by
  unfold seqIndex?
  have e : (if r < 0 then r + (n : Int) else r) = r := if_neg (by omega)
  simp only [e]
  rw [if_pos (by simp [h0, h1])]
theorem erase_map : ∀ (l : List Str) (k : Nat), (l.map V.str).eraseIdx k = (l.eraseIdx k).map V.str
  | [], _ => rfl
  | _ :: _, 0 => rfl
  | x :: l, k + 1 => by
    show V.str x :: (l.map V.str).eraseIdx k = V.str x :: (l.eraseIdx k).map V.str
    rw [erase_map l k]
theorem paired_snoc {α β : Type} {R : α → β → Prop} {a : α} {b : β} (h : R a b) : ∀ {as : List α} {bs : List β}, Paired R as bs → Paired R (as ++ [a]) (bs ++ [b])
  | _, _, .nil => .cons h .nil
  | _, _, .cons x r => .cons x (paired_snoc h r)
theorem erase_perm {α : Type} : ∀ (l : List α) (i : Nat) (h : i < l.length), (l[i] :: l.eraseIdx i).Perm l
  | x :: l, 0, _ => .refl _
  | x :: l, i + 1, h => by
    have hh : i < l.length := Nat.lt_of_succ_lt_succ h
    have z := erase_perm l i hh
    show (l[i] :: x :: l.eraseIdx i).Perm (x :: l)
    exact (List.Perm.swap x l[i] _).trans (z.cons x)
theorem pool_ww : ∀ x ∈ POOL, x ∈ WW := by decide +kernel
def OpnFit (ks : List (Str × Int)) (o : Opn) : Prop := ∃ m : Int, (o.k, m) ∈ ks ∧ 0 ≤ o.g ∧ o.g < m ∧ o.nn.length ≤ 2 ∧ ∀ n ∈ o.nn, NdOk m ks n
theorem DeckAt.dom' {dk dl b : Addr} {H H' : Hp} (k : Keep dk dl H H') (h : H' b = none) (h1 : b ≠ dk) (h2 : b ≠ dl) : H b = none := by
  cases z : H b with
  | none => rfl
  | some o => rw [k b o h1 h2 z] at h; cases h
theorem pairs_list {α β : Type} {R : α → β → Prop} : ∀ {as : List α} {bs : List β}, Paired R as bs → ∃ T : List (α × β), as = T.map (·.1) ∧ bs = T.map (·.2) ∧ ∀ x ∈ T, R x.1 x.2
  | _, _, .nil => ⟨[], rfl, rfl, fun _ z => (List.not_mem_nil z).elim⟩
  | _, _, .cons (a := a) (b := b) h r => by
    obtain ⟨T, e1, e2, hT⟩ := pairs_list r
    refine ⟨(a, b) :: T, by rw [e1]; rfl, by rw [e2]; rfl, fun x hx => ?_⟩
    rcases List.mem_cons.mp hx with rfl | hx
    · exact h
    · exact hT x hx
theorem list_pairs {α β : Type} {R : α → β → Prop} : ∀ {T : List (α × β)}, (∀ x ∈ T, R x.1 x.2) → Paired R (T.map (·.1)) (T.map (·.2))
  | [], _ => .nil
  | x :: T, h => .cons (h x (List.mem_cons_self ..)) (list_pairs fun y hy => h y (List.mem_cons_of_mem _ hy))
theorem kt_dk {K : PySem.W.Frag} {H : Hp} {p : Addr} {xs ys : List (Key × V)} (h : H p = some (.dK xs)) : KTu K H (upd H p (.dK ys)) := fun a zs e => by
  rcases e with (e | ⟨o, e⟩) | e
  · exact .inl (.inl ((upd_ne (ne_of e h (by intro z; cases z))).trans e))
  · exact .inl (.inr ⟨o, (upd_ne (ne_of e h (by intro z; cases z))).trans e⟩)
  · exact .inr e
theorem at_three {r : Int} (h0 : 0 ≤ r) (h1 : r < 3) : atI [V.int 1, .int 2, .int 3] r = some (.int (1 + r)) := by
  have : r = 0 ∨ r = 1 ∨ r = 2 := by omega
  rcases this with rfl | rfl | rfl
  · exact atI_nat (j := 0) rfl
  · exact atI_nat (j := 1) rfl
  · exact atI_nat (j := 2) rfl
abbrev nWorld : List Str := ["_law_deck_here", "_law_pool", "_law_found", "_law_ways", "_law_k", "_law_label", "_law_many", "_law_given", "_law_needs", "_law_turn"]
end
end Mine

set_option Elab.async false
set_option linter.all false
set_option maxRecDepth 100000
set_option maxHeartbeats 4000000
/-! Drawn things as data; what openings want of them. -/
namespace Mine
open PySem PySem.Spec PyProof.Rows L2 TL
theorem kid_depth {d p : PyData} {n : Nat} (hp : p ∈ kids d) (h : PyData.depth d ≤ n + 1) : PyData.depth p ≤ n := by
  have go : ∀ {ds : List PyData} {p : PyData}, p ∈ ds → PyData.depth p ≤ PyData.depthAll ds := fun {ds p} => by
    induction ds with
    | nil => intro z; exact (List.not_mem_nil z).elim
    | cons d ds ih =>
      intro z
      simp only [PyData.depthAll]
      rcases List.mem_cons.mp z with rfl | z
      · exact Nat.le_max_left _ _
      · exact Nat.le_trans (ih z) (Nat.le_max_right _ _)
  cases d with
  | tuple ds =>
    cases ds with
    | nil => exact (List.not_mem_nil hp).elim
    | cons k ds =>
      have hp' : p ∈ ds := hp
      have := go (List.mem_cons_of_mem k hp')
      simp only [PyData.depth] at h
      omega
  | _ => exact (List.not_mem_nil hp).elim
theorem kid_depth0 {d : PyData} (h : PyData.depth d ≤ 0) : kids d = [] := by
  cases d with
  | tuple ds => simp only [PyData.depth] at h; omega
  | _ => rfl
theorem kid_sz {d p : PyData} (hp : p ∈ kids d) : sz p + 1 ≤ sz d := by
  have := flat_ge hp
  unfold sz
  rw [lot_eq d, List.length_cons]
  omega
theorem kids_num {ps : List PyData} {c : Str} (h : sz (.tuple (.str c :: ps)) ≤ 4000) : ps.length ≤ 4000 := by
  have e : (ps.flatMap lot).length + 1 = sz (.tuple (.str c :: ps)) := by
    unfold sz
    rw [lot_eq (.tuple _), List.length_cons]
    rfl
  have : ps.length ≤ (ps.flatMap lot).length := by
    clear h e
    induction ps with
    | nil => simp
    | cons p ps ih =>
      rw [List.flatMap_cons, List.length_append, List.length_cons]
      have := sz_pos p
      unfold sz at this
      omega
  omega
theorem take_lot {ps : List PyData} {i : Nat} : ((ps.take i).flatMap lot).length ≤ (ps.flatMap lot).length := by
  have e : ps.flatMap lot = (ps.take i).flatMap lot ++ (ps.drop i).flatMap lot := by rw [← List.flatMap_append, List.take_append_drop]
  rw [e, List.length_append]
  omega
/-- kinds and openings are words out of these -/
def KWd : List Str := WW
/-- the words and names that drawn things have as leaves -/
def IV : List Str := [PySem.Str.ofString "K", PySem.Str.ofString "M", PySem.Str.ofString "Nx9", PySem.Str.ofString "a", PySem.Str.ofString "b", PySem.Str.ofString "word"]
theorem joinL_len {S : List Nat} : ∀ {ps : List (List Nat)}, ps ≠ [] → (joinL S ps).length + S.length = (ps.map List.length).sum + ps.length * S.length
  | [], h => absurd rfl h
  | [p], _ => by simp [joinL]
  | p :: q :: r, _ => by
    have ih := joinL_len (S := S) (ps := q :: r) (List.cons_ne_nil _ _)
    show (p ++ (S ++ joinL S (q :: r))).length + S.length = _
    simp only [List.length_append, List.map_cons, List.sum_cons, List.length_cons] at ih ⊢
    rw [Nat.succ_mul]
    omega
theorem join_len {y : Str} {ps : List Str} (h : ps ≠ []) : (Str.join y ps).length + y.length = (ps.map (·.length)).sum + ps.length * y.length := by
  have e := joinL_len (S := tl y) (ps := ps.map tl) (by simpa using h)
  rw [← tl_join] at e
  have e1 : ∀ z : Str, (tl z).length = z.length := fun z => by simp [tl, Str.length]
  rw [e1, e1, List.map_map, List.length_map] at e
  have e2 : (List.length ∘ tl) = fun z : Str => z.length := funext fun z => e1 z
  rw [e2] at e
  exact e
mutual
def itm : PyData → Bool
  | .str x => decide (x ∈ IV)
  | .tuple (.str c :: d :: ds) => decide (c ∈ KWd) && itm d && itms ds
  | _ => false
def itms : List PyData → Bool
  | [] => true
  | d :: ds => itm d && itms ds
end
theorem itms_iff {ds : List PyData} : itms ds = true ↔ ∀ d ∈ ds, itm d = true := by
  induction ds with
  | nil => simp [itms]
  | cons d ds ih => simp only [itms, Bool.and_eq_true, ih, List.mem_cons, forall_eq_or_imp]
theorem itm_cases {d : PyData} (h : itm d = true) : (∃ c, d = .str c ∧ c ∈ IV) ∨ ∃ c ps, d = .tuple (.str c :: ps) ∧ ps ≠ [] ∧ c ∈ KWd ∧ ∀ p ∈ ps, itm p = true := by
  cases d with
  | str c => exact .inl ⟨c, rfl, by simpa [itm] using h⟩
  | tuple ds =>
    match ds, h with
    | .str c :: p :: ps, h =>
      have h' : (c ∈ KWd ∧ itm p = true) ∧ itms ps = true := by simpa [itm] using h
      refine .inr ⟨c, p :: ps, rfl, List.cons_ne_nil _ _, h'.1.1, fun x hx => ?_⟩
      rcases List.mem_cons.mp hx with rfl | hx
      · exact h'.1.2
      · exact itms_iff.mp h'.2 x hx
    | [], h => simp [itm] at h
    | [x], h => cases x <;> simp [itm] at h
    | .none :: _ :: _, h => simp [itm] at h
    | .bool _ :: _ :: _, h => simp [itm] at h
    | .int _ :: _ :: _, h => simp [itm] at h
    | .list _ :: _ :: _, h => simp [itm] at h
    | .tuple _ :: _ :: _, h => simp [itm] at h
    | .dict _ :: _ :: _, h => simp [itm] at h
  | none => simp [itm] at h
  | bool _ => simp [itm] at h
  | int _ => simp [itm] at h
  | list _ => simp [itm] at h
  | dict _ => simp [itm] at h
theorem itm_tup {c : Str} {ps : List PyData} (hc : c ∈ KWd) (ne : ps ≠ []) (h : ∀ p ∈ ps, itm p = true) : itm (.tuple (.str c :: ps)) = true := by
  cases ps with
  | nil => exact absurd rfl ne
  | cons p ps =>
    simp only [itm, Bool.and_eq_true, decide_eq_true_eq]
    exact ⟨⟨hc, h p (List.mem_cons_self ..)⟩, itms_iff.mpr fun x hx => h x (List.mem_cons_of_mem _ hx)⟩
theorem itm_str {x : Str} (h : x ∈ IV) : itm (.str x) = true := by simpa [itm] using h
theorem iv_okS : ∀ x ∈ IV, okS x = true := by decide +kernel
theorem kv_okS : ∀ x ∈ KWd, okS x = true := by decide +kernel
theorem iv_len : ∀ x ∈ IV, x.length ≤ 8 := by decide +kernel
theorem kv_len : ∀ x ∈ KWd, x.length ≤ 8 := by decide +kernel
theorem iv_cps : ∀ x ∈ IV, ∀ c ∈ x.cps.toList, c < 0x110000 := by decide +kernel
theorem iv_shown : ∀ x ∈ IV, (PyData.shown (.str x)).length ≤ 10 := by decide +kernel
theorem kv_shown : ∀ x ∈ KWd, (PyData.shown (.str x)).length ≤ 10 := by decide +kernel
theorem sz_str (c : Str) : sz (.str c) = 1 := by simp [sz, lot]
theorem sz_tup (c : Str) (ps : List PyData) : sz (.tuple (.str c :: ps)) = 1 + (ps.map sz).sum := by
  unfold sz
  rw [lot_eq, List.length_cons]
  show (ps.flatMap lot).length + 1 = _
  rw [List.length_flatMap]
  omega
theorem itm_thing : ∀ (n : Nat) (d : PyData), sz d ≤ n → itm d = true → thW d = true
  | 0, d, hn, _ => by have := sz_pos d; omega
  | n + 1, d, hn, h => by
    rcases itm_cases h with ⟨c, rfl, hc⟩ | ⟨c, ps, rfl, ne, hc, hp⟩
    · simpa only [thW] using iv_okS c hc
    · cases ps with
      | nil => exact absurd rfl ne
      | cons p ps =>
        have all : ∀ q ∈ p :: ps, thW q = true := fun q hq => itm_thing n q (by have : sz q + 1 ≤ sz (.tuple (.str c :: p :: ps)) := kid_sz (show q ∈ kids (.tuple (.str c :: p :: ps)) from hq); omega) (hp q hq)
        simp only [thW, kv_okS c hc, all p (List.mem_cons_self ..), thWs_iff.mpr fun x hx => all x (List.mem_cons_of_mem _ hx)]
        rfl
theorem sums {ps : List PyData} {f g : PyData → Nat} (h : ∀ p ∈ ps, f p ≤ g p) : (ps.map f).sum ≤ (ps.map g).sum := by
  induction ps with
  | nil => exact Nat.le_refl _
  | cons p ps ih =>
    have := h p (List.mem_cons_self ..)
    have := ih fun q hq => h q (List.mem_cons_of_mem _ hq)
    simp only [List.map_cons, List.sum_cons]
    omega
theorem sum_mul (k : Nat) (ps : List PyData) : (ps.map fun p => k * sz p).sum = k * (ps.map sz).sum := by
  induction ps with
  | nil => rfl
  | cons p ps ih => simp only [List.map_cons, List.sum_cons, ih, Nat.mul_add]
theorem sum_add (k : Nat) (f : PyData → Nat) (ps : List PyData) : (ps.map fun p => f p + k).sum = (ps.map f).sum + k * ps.length := by
  induction ps with
  | nil => rfl
  | cons p ps ih =>
    simp only [List.map_cons, List.sum_cons, ih, List.length_cons, Nat.mul_add]
    omega
theorem itm_txt : ∀ (n : Nat) (d : PyData), sz d ≤ n → itm d = true → (txt d).length + 1 ≤ 11 * sz d
  | 0, d, hn, _ => by have := sz_pos d; omega
  | n + 1, d, hn, h => by
    rcases itm_cases h with ⟨c, rfl, hc⟩ | ⟨c, ps, rfl, ne, hc, hp⟩
    · have := iv_len c hc
      rw [txt_str, sz_str]
      omega
    · have all : ∀ q ∈ ps, (txt q).length + 1 ≤ 11 * sz q := fun q hq => itm_txt n q (by have : sz q + 1 ≤ sz (.tuple (.str c :: ps)) := kid_sz (show q ∈ kids (.tuple (.str c :: ps)) from hq); omega) (hp q hq)
      have s1 := sums all
      rw [sum_mul, sum_add 1 (fun q => (txt q).length)] at s1
      have cl := kv_len c hc
      have comma1 : (PySem.Str.ofString ",").length = 1 := by decide +kernel
      have o1 : (PySem.Str.ofString "(").length = 1 := by decide +kernel
      have o2 : (PySem.Str.ofString ")").length = 1 := by decide +kernel
      have jl := join_len (y := PySem.Str.ofString ",") (ps := ps.map txt) (by simpa using ne)
      rw [comma1, List.map_map, List.length_map] at jl
      have e : (List.map ((fun x => x.length) ∘ txt) ps) = ps.map fun q => (txt q).length := rfl
      rw [e] at jl
      rw [txt_tup, sz_tup, strLen_append, strLen_append, strLen_append, o1, o2]
      omega
theorem shownAll_eq (ds : List PyData) : PyData.shownAll ds = ds.map PyData.shown := by
  induction ds with
  | nil => simp [PyData.shownAll]
  | cons d ds ih => simp [PyData.shownAll, ih]
theorem showableAll_iff {ds : List PyData} : PyData.showableAll ds = true ↔ ∀ d ∈ ds, d.showable = true := by
  induction ds with
  | nil => simp [PyData.showableAll]
  | cons d ds ih => simp only [PyData.showableAll, Bool.and_eq_true, ih, List.mem_cons, forall_eq_or_imp]
theorem itm_show : ∀ (n : Nat) (d : PyData), sz d ≤ n → itm d = true → d.showable = true ∧ (PyData.shown d).length + 2 ≤ 30 * sz d
  | 0, d, hn, _ => by have := sz_pos d; omega
  | n + 1, d, hn, h => by
    rcases itm_cases h with ⟨c, rfl, hc⟩ | ⟨c, ps, rfl, ne, hc, hp⟩
    · have := iv_shown c hc
      rw [sz_str]
      exact ⟨by simp [PyData.showable], by omega⟩
    · have all : ∀ q ∈ ps, q.showable = true ∧ (PyData.shown q).length + 2 ≤ 30 * sz q := fun q hq => itm_show n q (by have : sz q + 1 ≤ sz (.tuple (.str c :: ps)) := kid_sz (show q ∈ kids (.tuple (.str c :: ps)) from hq); omega) (hp q hq)
      refine ⟨?_, ?_⟩
      · simp only [PyData.showable, PyData.showableAll, Bool.true_and]
        exact showableAll_iff.mpr fun q hq => (all q hq).1
      · have s1 := sums fun q hq => (all q hq).2
        rw [sum_mul, sum_add 2 (fun q => (PyData.shown q).length)] at s1
        have h1 := tupleText_len_le (PyData.shownAll (.str c :: ps))
        have cl := kv_shown c hc
        rw [shownAll_eq, List.map_map, List.length_map, List.length_cons] at h1
        simp only [List.map_cons, List.sum_cons] at h1
        have e : (List.map ((fun x => x.length) ∘ PyData.shown) ps) = ps.map fun q => (PyData.shown q).length := rfl
        rw [e] at h1
        rw [sz_tup]
        simp only [PyData.shown]
        rw [shownAll_eq]
        simp only [List.map_cons]
        have : ((fun x : Str => x.length) ∘ PyData.shown) (.str c) = (PyData.shown (.str c)).length := rfl
        omega
theorem itm_lot : ∀ (n : Nat) (d : PyData), sz d ≤ n → itm d = true → ∀ p ∈ lot d, itm p = true ∧ sz p ≤ sz d ∧ PyData.depth p ≤ PyData.depth d
  | 0, d, hn, _ => by have := sz_pos d; omega
  | n + 1, d, hn, h => by
    intro p hp
    rw [lot_eq] at hp
    rcases List.mem_cons.mp hp with rfl | hp
    · exact ⟨h, Nat.le_refl _, Nat.le_refl _⟩
    · obtain ⟨q, hq, hp2⟩ := List.mem_flatMap.mp hp
      rcases itm_cases h with ⟨c, rfl, hc⟩ | ⟨c, ps, rfl, ne, hc, hpp⟩
      · exact (List.not_mem_nil hq).elim
      · have qs := kid_sz hq
        obtain ⟨a, b, e⟩ := itm_lot n q (by omega) (hpp q hq) p hp2
        have dq : PyData.depth q ≤ PyData.depth (.tuple (.str c :: ps)) := by
          have := kid_depth (n := PyData.depth (.tuple (.str c :: ps)) - 1) hq (by omega)
          omega
        exact ⟨a, by omega, by omega⟩
mutual
/-- of kinds with their numbers of parts -/
def fitK (ks : List (Str × Int)) : PyData → Bool
  | .str _ => true
  | .tuple (.str c :: ds) => decide ((c, (ds.length : Int)) ∈ ks) && fitKs ks ds
  | _ => false
def fitKs (ks : List (Str × Int)) : List PyData → Bool
  | [] => true
  | d :: ds => fitK ks d && fitKs ks ds
end
theorem fitKs_iff {ks : List (Str × Int)} {ds : List PyData} : fitKs ks ds = true ↔ ∀ d ∈ ds, fitK ks d = true := by
  induction ds with
  | nil => simp [fitKs]
  | cons d ds ih => simp only [fitKs, Bool.and_eq_true, ih, List.mem_cons, forall_eq_or_imp]
theorem fitK_tup {ks : List (Str × Int)} {c : Str} {ds : List PyData} : fitK ks (.tuple (.str c :: ds)) = true ↔ (c, (ds.length : Int)) ∈ ks ∧ ∀ d ∈ ds, fitK ks d = true := by
  simp only [fitK, Bool.and_eq_true, decide_eq_true_eq, fitKs_iff]
theorem fitK_str {ks : List (Str × Int)} {x : Str} : fitK ks (.str x) = true := by simp only [fitK]

def wantD : Nd → List PyData → Option PyData
  | .part j, ds => ds[j.toNat]?
  | .around c j, ds => (ds[j.toNat]?).map fun d => .tuple [.str c, d]
  | .inside j c, ds => (ds[j.toNat]?).bind fun d => match d with
    | .tuple (.str c' :: d1 :: _) => if c' = c then some d1 else none
    | _ => none
def optD : Option PyData → PyData
  | some d => d
  | none => .none
def allSome : List (Option PyData) → Option (List PyData)
  | [] => some []
  | none :: _ => none
  | some d :: r => (allSome r).map (d :: ·)
def needD (nn : List Nd) (ds : List PyData) : PyData := match allSome (nn.map fun n => wantD n ds) with
  | some l => .tuple l
  | none => .none
theorem opt_kt {K : PySem.W.Frag} {H H' : Hp} (kt : KTu K H H') {v : V} {x : Option PyData} (t : ∀ d, x = some d → thing d = true) (h : Dp K H v (optD x)) : Dp K H' v (optD x) := by
  cases x with
  | none =>
    cases h
    exact .non
  | some d => exact th_kt kt d v (t d rfl) h
theorem opts_kt {K : PySem.W.Frag} {H H' : Hp} (kt : KTu K H H') : ∀ {vs : List V} {xs : List (Option PyData)}, (∀ d, some d ∈ xs → thing d = true) → DpAll K H vs (xs.map optD) → DpAll K H' vs (xs.map optD)
  | _, [], _, h => by
    cases h
    exact .nil
  | _, x :: xs, t, h => by
    cases h with
    | cons h1 h2 => exact .cons (opt_kt kt (fun d e => t d (by rw [e]; exact List.mem_cons_self ..)) h1) (opts_kt kt (fun d e => t d (List.mem_cons_of_mem _ e)) h2)
theorem eqv_non {d : PyData} (h : thing d = true) : PyData.eqv d .none = false := by
  rcases thing_cases h with ⟨c, rfl⟩ | ⟨c, ps, rfl, _⟩ <;> simp [PyData.eqv]
theorem shaped_of {ds : List PyData} (h1 : PyData.canLayAll0 ds = true) (h2 : PyData.depthAll ds ≤ 20) : SeqAt.shaped (.list ds) = true := by
  show (PyData.canLay0 (.list ds) && decide (PyData.depth (.list ds) ≤ 64)) = true
  rw [Bool.and_eq_true]
  refine ⟨by simp only [PyData.canLay0]; exact h1, decide_eq_true ?_⟩
  simp only [PyData.depth]
  omega
theorem paired_ta {α β : Type} {R : α → β → Prop} : ∀ {as : List α} {bs : List β} {i : Nat} {b : β}, Paired R as bs → bs[i]? = some b → ∃ a, as[i]? = some a ∧ R a b
  | _, _, 0, b, .cons h _, e => ⟨_, rfl, by cases e; exact h⟩
  | _, _, i + 1, b, .cons _ r, e => by
    obtain ⟨a, e1, h1⟩ := paired_ta r (i := i) e
    exact ⟨a, e1, h1⟩
theorem itm_th {d : PyData} (h : itm d = true) : thing d = true := thW_thing _ d (Nat.le_refl _) (itm_thing _ d (Nat.le_refl _) h)
theorem lays_iff {ds : List PyData} : PyData.canLayAll0 ds = true ↔ ∀ d ∈ ds, d.canLay0 = true := by
  induction ds with
  | nil => simp [PyData.canLayAll0]
  | cons d ds ih => simp only [PyData.canLayAll0, Bool.and_eq_true, ih, List.mem_cons, forall_eq_or_imp]
theorem deps_le {ds : List PyData} {n : Nat} : PyData.depthAll ds ≤ n ↔ ∀ d ∈ ds, d.depth ≤ n := by
  induction ds with
  | nil => simp [PyData.depthAll]
  | cons d ds ih => simp only [PyData.depthAll, Nat.max_le, ih, List.mem_cons, forall_eq_or_imp]
theorem iv_strOk : ∀ x ∈ IV, PyData.strOk x = true := by decide +kernel
theorem kv_strOk : ∀ x ∈ KWd, PyData.strOk x = true := by decide +kernel
theorem itm_lay : ∀ (n : Nat) (d : PyData), sz d ≤ n → itm d = true → d.canLay0 = true
  | 0, d, hn, _ => by have := sz_pos d; omega
  | n + 1, d, hn, h => by
    rcases itm_cases h with ⟨c, rfl, hc⟩ | ⟨c, ps, rfl, ne, hc, hp⟩
    · simp only [PyData.canLay0]
      exact iv_strOk c hc
    · simp only [PyData.canLay0]
      exact lays_iff.mpr fun q hq => by
        rcases List.mem_cons.mp hq with rfl | hq
        · simp only [PyData.canLay0]
          exact kv_strOk c hc
        · exact itm_lay n q (by have : sz q + 1 ≤ sz (.tuple (.str c :: ps)) := kid_sz (show q ∈ kids (.tuple (.str c :: ps)) from hq); omega) (hp q hq)
/-- a thing nests less deep than it has pieces -/
theorem dep_sz : ∀ (n : Nat) (d : PyData), sz d ≤ n → thing d = true → d.depth + 1 ≤ sz d
  | 0, d, hn, _ => by have := sz_pos d; omega
  | n + 1, d, hn, h => by
    rcases thing_cases h with ⟨c, rfl⟩ | ⟨c, ps, rfl, ne, hp⟩
    · rw [sz_str]
      simp [PyData.depth]
    · have all : ∀ q ∈ ps, q.depth + 2 ≤ sz (.tuple (.str c :: ps)) := fun q hq => by
        have a : sz q + 1 ≤ sz (.tuple (.str c :: ps)) := kid_sz (show q ∈ kids (.tuple (.str c :: ps)) from hq)
        have b := dep_sz n q (by omega) (hp q hq)
        omega
      have two : 2 ≤ sz (.tuple (.str c :: ps)) := by
        cases ps with
        | nil => exact absurd rfl ne
        | cons p ps =>
          have := all p (List.mem_cons_self ..)
          omega
      have : PyData.depthAll (.str c :: ps) ≤ sz (.tuple (.str c :: ps)) - 2 := deps_le.mpr fun q hq => by
        rcases List.mem_cons.mp hq with rfl | hq
        · simp [PyData.depth]
        · have := all q hq
          omega
      simp only [PyData.depth]
      omega
theorem itm_dep {d : PyData} (h : itm d = true) : d.depth + 1 ≤ sz d := dep_sz _ d (Nat.le_refl _) (itm_th h)
theorem shapedL {ds : List PyData} (h1 : ∀ d ∈ ds, d.canLay0 = true) (h2 : ∀ d ∈ ds, d.depth ≤ 60) : SeqAt.shaped (.list ds) = true := by
  show (PyData.canLay0 (.list ds) && decide (PyData.depth (.list ds) ≤ 64)) = true
  rw [Bool.and_eq_true]
  refine ⟨by simp only [PyData.canLay0]; exact lays_iff.mpr h1, decide_eq_true ?_⟩
  have := deps_le.mpr h2
  simp only [PyData.depth]
  omega
theorem shapedD {d : PyData} (h1 : d.canLay0 = true) (h2 : d.depth ≤ 64) : SeqAt.shaped d = true := by
  show (PyData.canLay0 d && decide (PyData.depth d ≤ 64)) = true
  rw [Bool.and_eq_true]
  exact ⟨h1, decide_eq_true h2⟩
/-- a thing of a drawn world -/
structure ItK (ks : List (Str × Int)) (d : PyData) : Prop where
  it : itm d = true
  fit : fitK ks d = true
theorem ItK.th {ks : List (Str × Int)} {d : PyData} (h : ItK ks d) : thing d = true := itm_th h.it
theorem ItK.lay {ks : List (Str × Int)} {d : PyData} (h : ItK ks d) : d.canLay0 = true := itm_lay _ d (Nat.le_refl _) h.it
theorem ItK.dep {ks : List (Str × Int)} {d : PyData} (h : ItK ks d) : d.depth + 1 ≤ sz d := itm_dep h.it
theorem ItK.kid {ks : List (Str × Int)} {c : Str} {ps : List PyData} (h : ItK ks (.tuple (.str c :: ps))) : (c, (ps.length : Int)) ∈ ks ∧ c ∈ KWd ∧ ∀ p ∈ ps, ItK ks p := by
  obtain ⟨a, b⟩ := fitK_tup.mp h.fit
  rcases itm_cases h.it with ⟨_, z, _⟩ | ⟨c', ps', z, _, hc, hp⟩
  · cases z
  · cases z
    exact ⟨a, hc, fun p hp' => ⟨hp p hp', b p hp'⟩⟩
theorem ItK.str {ks : List (Str × Int)} {x : Str} (h : x ∈ IV) : ItK ks (.str x) := ⟨itm_str h, fitK_str⟩
theorem ItK.tup {ks : List (Str × Int)} {c : Str} {ps : List PyData} (h : (c, (ps.length : Int)) ∈ ks) (hc : c ∈ KWd) (ne : ps ≠ []) (hp : ∀ p ∈ ps, ItK ks p) : ItK ks (.tuple (.str c :: ps)) :=
  ⟨itm_tup hc ne fun p h => (hp p h).it, fitK_tup.mpr ⟨h, fun p h => (hp p h).fit⟩⟩
/-- .. by its two shapes -/
theorem ItK.cases {K : PySem.W.Frag} {H : Hp} {ks : List (Str × Int)} {v : V} {d : PyData} (h : ItK ks d) (hd : Dp K H v d) :
    (∃ c, d = .str c ∧ v = .str c ∧ c ∈ IV) ∨ ∃ (a : Addr) (c : Str) (ws : List V) (ps : List PyData), d = .tuple (.str c :: ps) ∧ v = .ref a ∧ SqT K H a (.str c :: ws) ∧ DpAll K H ws ps ∧ ps ≠ [] ∧ (c, (ps.length : Int)) ∈ ks ∧ c ∈ KWd ∧ ∀ p ∈ ps, ItK ks p := by
  rcases th_cases h.th hd with ⟨c, rfl, rfl⟩ | ⟨a, c, ws, ps, rfl, rfl, ha, hws, ne, _⟩
  · refine .inl ⟨c, rfl, rfl, ?_⟩
    simpa [itm] using h.it
  · obtain ⟨h1, h2, h3⟩ := h.kid
    exact .inr ⟨a, c, ws, ps, rfl, rfl, ha, hws, ne, h1, h2, h3⟩
theorem ItK.lot {ks : List (Str × Int)} : ∀ (n : Nat) {d : PyData}, sz d ≤ n → ItK ks d → ∀ p ∈ lot d, ItK ks p ∧ sz p ≤ sz d
  | 0, d, hn, _ => by have := sz_pos d; omega
  | n + 1, d, hn, h => by
    intro p hp
    rw [lot_eq] at hp
    rcases List.mem_cons.mp hp with rfl | hp
    · exact ⟨h, Nat.le_refl _⟩
    · obtain ⟨q, hq, hp2⟩ := List.mem_flatMap.mp hp
      have qs := kid_sz hq
      rcases itm_cases h.it with ⟨c, rfl, hc⟩ | ⟨c, ps, rfl, ne, hc, hpp⟩
      · exact (List.not_mem_nil hq).elim
      · obtain ⟨a, b⟩ := ItK.lot n (by omega) (h.kid.2.2 q hq) p hp2
        exact ⟨a, by omega⟩
theorem kt_keep {K : PySem.W.Frag} {H H' : Hp} {dk dl : Addr} {t : Int} (D : DeckAt H dk dl t) (k : Keep dk dl H H') : KTu K H H' := fun _ _ h => k.kt D _ _ h
theorem th_keep {K : PySem.W.Frag} {H H' : Hp} {dk dl : Addr} {t : Int} {ks : List (Str × Int)} {v : V} {d : PyData} (i : ItK ks d) (D : DeckAt H dk dl t) (k : Keep dk dl H H') (h : Dp K H v d) : Dp K H' v d := th_kt (kt_keep D k) d v i.th h
theorem its_kt {K : PySem.W.Frag} {H H' : Hp} {ks : List (Str × Int)} (k : KTu K H H') {vs : List V} {ds : List PyData} (i : ∀ d ∈ ds, ItK ks d) (h : DpAll K H vs ds) : DpAll K H' vs ds := ths_kt k ds vs (thingAll_iff.mpr fun d hd => (i d hd).th) h
end Mine

set_option Elab.async false
set_option linter.all false
set_option maxRecDepth 100000
set_option maxHeartbeats 4000000
/-! Steps of recipes as data, and what they come to. -/
namespace Mine
open PySem PySem.Spec PyProof.Rows L2 TL
abbrev lsS (s : String) : Str := PySem.Str.ofString s
theorem FnOk_or {P : Program} {w : World} {K : PySem.W.Frag} {mg : Str → Option Value} {base : Heap} {CX : CXT} {k : Nat} {f : Addr} {fd : FuncData} {ps : List Str} {sp sp' : Sp} (F : FnOk P w K mg base CX k f fd ps sp) (G : FnOk P w K mg base CX k f fd ps sp') :
    FnOk P w K mg base CX k f fd ps (fun vs H Q E => sp vs H Q E ∨ sp' vs H Q E) :=
  ⟨fun vs H Q E h => h.elim (F.len vs H Q E) (G.len vs H Q E), fun A outer s H args us vs Q E hr he hb hv hs => hs.elim (F.run A outer s H args us vs Q E hr he hb hv) (G.run A outer s H args us vs Q E hr he hb hv)⟩
def spPickA (K : PySem.W.Frag) : Sp := fun vs H Q E => spPick vs H Q E ∨ spPickT K vs H Q E
inductive Stp where
  | shown (i : Nat)
  | word (x : Str)
  | make (c : Str) (ns : List Nat)
  | opn (c : Str) (ns : List Nat)
abbrev natD (n : Nat) : PyData := .int (n : Int)
abbrev natV (n : Nat) : V := .int (n : Int)
def stD : Stp → PyData
  | .shown i => .tuple [.str (lsS "shown"), natD i]
  | .word x => .tuple [.str (lsS "word"), .str x]
  | .make c ns => .tuple [.str (lsS "make"), .str c, .tuple (ns.map natD)]
  | .opn c ns => .tuple [.str (lsS "open"), .str c, .tuple (ns.map natD)]
/-- a step stands -/
def StAt (K : PySem.W.Frag) (H : Hp) (v : V) : Stp → Prop
  | .shown i => ∃ a, v = .ref a ∧ SqT K H a [.str (lsS "shown"), natV i]
  | .word x => ∃ a, v = .ref a ∧ SqT K H a [.str (lsS "word"), .str x]
  | .make c ns => ∃ a b, v = .ref a ∧ SqT K H a [.str (lsS "make"), .str c, .ref b] ∧ SqT K H b (ns.map natV)
  | .opn c ns => ∃ a b, v = .ref a ∧ SqT K H a [.str (lsS "open"), .str c, .ref b] ∧ SqT K H b (ns.map natV)
theorem StAt.kt {K : PySem.W.Frag} {H H' : Hp} (k : KTu K H H') {v : V} {s : Stp} (h : StAt K H v s) : StAt K H' v s := by
  cases s with
  | shown i => obtain ⟨a, e, h1⟩ := h; exact ⟨a, e, k _ _ h1⟩
  | word x => obtain ⟨a, e, h1⟩ := h; exact ⟨a, e, k _ _ h1⟩
  | make c ns => obtain ⟨a, b, e, h1, h2⟩ := h; exact ⟨a, b, e, k _ _ h1, k _ _ h2⟩
  | opn c ns => obtain ⟨a, b, e, h1, h2⟩ := h; exact ⟨a, b, e, k _ _ h1, k _ _ h2⟩
theorem nats_dp {K : PySem.W.Frag} {H : Hp} : ∀ ns : List Nat, DpAll K H (ns.map natV) (ns.map natD)
  | [] => .nil
  | n :: ns => .cons (.int n) (nats_dp ns)
theorem StAt.dp {K : PySem.W.Frag} {H : Hp} {v : V} {s : Stp} (h : StAt K H v s) : Dp K H v (stD s) := by
  cases s with
  | shown i => obtain ⟨a, rfl, h1⟩ := h; exact .tup h1 (.cons (.str _) (.cons (.int _) .nil))
  | word x => obtain ⟨a, rfl, h1⟩ := h; exact .tup h1 (.cons (.str _) (.cons (.str _) .nil))
  | make c ns => obtain ⟨a, b, rfl, h1, h2⟩ := h; exact .tup h1 (.cons (.str _) (.cons (.str _) (.cons (.tup h2 (nats_dp ns)) .nil)))
  | opn c ns => obtain ⟨a, b, rfl, h1, h2⟩ := h; exact .tup h1 (.cons (.str _) (.cons (.str _) (.cons (.tup h2 (nats_dp ns)) .nil)))
/-- the numbers that a step names -/
def Stp.nums : Stp → List Nat
  | .make _ ns | .opn _ ns => ns
  | _ => []
/-- what an opening wants of a thing of its kind with such parts -/
def wantsD (o : Opn) (ds : List PyData) : Option (List PyData) := allSome (o.nn.map fun n => wantD n ds)
def waysAt (os : List Opn) : PyData → List Opn
  | .tuple (.str c :: _) => os.filter fun o => decide (o.k = c)
  | _ => []
open Classical in
/-- what a step comes to -/
noncomputable def openS (o : Opn) : List PyData → Option PyData
  | .tuple (.str c :: ds) :: rest => if c = o.k ∧ wantsD o ds = some rest then ds[o.g.toNat]? else none
  | _ => none
noncomputable def worthS (os : List Opn) (items : List PyData) (ws : List (Option PyData)) : Stp → Option PyData
  | .shown i => items[i]?
  | .word x => some (.str x)
  | .make c ns => (allSome (ns.map fun n => (ws[n]?).join)).map fun own => .tuple (.str c :: own)
  | .opn c ns => (allSome (ns.map fun n => (ws[n]?).join)).bind fun own => (os.find? fun o => decide (o.w = c)).bind fun o => openS o own
noncomputable def worthsS (os : List Opn) (items : List PyData) (ss : List Stp) : List (Option PyData) := ss.foldl (fun ws s => ws ++ [worthS os items ws s]) []
/-- a step at a place, for rows over a book with so many things -/
def StOk (ks : List (Str × Int)) (os : List Opn) (n at_ : Nat) : Stp → Prop
  | .shown i => i < n
  | .word x => x ∈ IV ∧ x.cps.toList.all (fun c => decide (97 ≤ c)) = true
  | .make c ns => (c, (ns.length : Int)) ∈ ks ∧ ∀ m ∈ ns, m < at_
  | .opn c ns => (∃ o ∈ os, o.w = c ∧ ns.length = 1 + o.nn.length) ∧ ∀ m ∈ ns, m < at_
def RcOk (ks : List (Str × Int)) (os : List Opn) (n : Nat) (ss : List Stp) : Prop := ∀ i s, ss[i]? = some s → StOk ks os n i s
theorem worths_snoc {os : List Opn} {items : List PyData} {ss : List Stp} {s : Stp} : worthsS os items (ss ++ [s]) = worthsS os items ss ++ [worthS os items (worthsS os items ss) s] := by
  unfold worthsS
  rw [List.foldl_append]
  rfl
theorem worths_len {os : List Opn} {items : List PyData} : ∀ ss : List Stp, (worthsS os items ss).length = ss.length := fun ss => by
  have go : ∀ (ss : List Stp) (acc : List (Option PyData)), (ss.foldl (fun ws s => ws ++ [worthS os items ws s]) acc).length = acc.length + ss.length := fun ss => by
    induction ss with
    | nil => intro acc; rfl
    | cons s ss ih =>
      intro acc
      rw [List.foldl_cons, ih, List.length_append, List.length_cons]
      simp only [List.length_cons, List.length_nil]
      omega
  have := go ss []
  simpa [worthsS] using this
theorem allSome_some : ∀ {a : List (Option PyData)} {l : List PyData}, allSome a = some l ↔ a = l.map some
  | [], l => by cases l <;> simp [allSome]
  | none :: r, l => by cases l <;> simp [allSome]
  | some d :: r, l => by
    rw [show allSome (some d :: r) = (allSome r).map (d :: ·) from rfl, Option.map_eq_some_iff]
    cases l with
    | nil => simp
    | cons e l =>
      constructor
      · rintro ⟨l', h1, h2⟩
        cases h2
        rw [allSome_some.mp h1]
        rfl
      · intro h
        rw [List.map_cons] at h
        injection h with h1 h2
        injection h1 with h1
        subst h1
        exact ⟨l, allSome_some.mpr h2, rfl⟩
theorem allSome_none' : ∀ {a : List (Option PyData)}, allSome a = none ↔ none ∈ a
  | [] => by simp [allSome]
  | none :: r => by simp [allSome]
  | some d :: r => by
    rw [show allSome (some d :: r) = (allSome r).map (d :: ·) from rfl, Option.map_eq_none_iff, allSome_none']
    simp
theorem wantD_part {j : Int} {ds : List PyData} : wantD (.part j) ds = ds[j.toNat]? := rfl
/-- what is wanted of a drawn thing is one, and is no larger by more than one piece -/
theorem want_it {ks : List (Str × Int)} {n : Nd} {ds : List PyData} {d : PyData} {m : Int} {k : Nat} (kv : ∀ p ∈ ks, p.1 ∈ KWd) (hp : ∀ d ∈ ds, ItK ks d ∧ sz d ≤ k) (hn : NdOk m ks n) (h : wantD n ds = some d) : ItK ks d ∧ sz d ≤ k + 1 := by
  cases n with
  | part j =>
    obtain ⟨a, b⟩ := hp d (List.mem_of_getElem? h)
    exact ⟨a, by omega⟩
  | around c j =>
    obtain ⟨e, he, rfl⟩ := Option.map_eq_some_iff.mp h
    obtain ⟨a, b⟩ := hp e (List.mem_of_getElem? he)
    refine ⟨ItK.tup (ps := [e]) hn.1 (kv _ hn.1) (by simp) (fun p hp => by rw [List.mem_singleton.mp hp]; exact a), ?_⟩
    rw [sz_tup]
    simp only [List.map_cons, List.map_nil, List.sum_cons, List.sum_nil]
    omega
  | inside j c =>
    obtain ⟨e, he, h⟩ := Option.bind_eq_some_iff.mp h
    obtain ⟨a, b⟩ := hp e (List.mem_of_getElem? he)
    rcases itm_cases a.it with ⟨c', rfl, _⟩ | ⟨c', ps, rfl, pne, _, _⟩
    · cases h
    · cases ps with
      | nil => exact absurd rfl pne
      | cons d1 dr =>
        dsimp only at h
        by_cases hc : c' = c
        · rw [if_pos hc] at h
          cases h
          have ms : d ∈ kids (.tuple (.str c' :: d :: dr)) := List.mem_cons_self ..
          have := kid_sz ms
          exact ⟨a.kid.2.2 d (List.mem_cons_self ..), by omega⟩
        · rw [if_neg hc] at h
          cases h
mutual
theorem eqv_of : ∀ (d e : PyData), thing d = true → thing e = true → PyData.eqv d e = true → d = e
  | .str x, .str y, _, _, h => by
    have : x = y := by simpa [PyData.eqv] using h
    rw [this]
  | .str _, .tuple _, _, _, h => by simp [PyData.eqv] at h
  | .tuple _, .str _, _, _, h => by simp [PyData.eqv] at h
  | .tuple (.str c :: d :: ds), .tuple (.str c' :: d' :: ds'), t, t', h => by
    have a : thing d = true ∧ thingAll ds = true := by simpa [thing] using t
    have b : thing d' = true ∧ thingAll ds' = true := by simpa [thing] using t'
    have h' : c = c' ∧ PyData.eqv d d' = true ∧ PyData.eqvAll ds ds' = true := by simpa [PyData.eqv, PyData.eqvAll, Bool.and_eq_true] using h
    rw [h'.1, eqv_of d d' a.1 b.1 h'.2.1, eqvs_of ds ds' a.2 b.2 h'.2.2]
  | .tuple [], _, t, _, _ => by simp [thing] at t
  | .tuple [d], _, t, _, _ => by cases d <;> simp [thing] at t
  | .tuple (.none :: _ :: _), _, t, _, _ => by simp [thing] at t
  | .tuple (.bool _ :: _ :: _), _, t, _, _ => by simp [thing] at t
  | .tuple (.int _ :: _ :: _), _, t, _, _ => by simp [thing] at t
  | .tuple (.list _ :: _ :: _), _, t, _, _ => by simp [thing] at t
  | .tuple (.tuple _ :: _ :: _), _, t, _, _ => by simp [thing] at t
  | .tuple (.dict _ :: _ :: _), _, t, _, _ => by simp [thing] at t
  | _, .tuple [], _, t, _ => by simp [thing] at t
  | _, .tuple [d], _, t, _ => by cases d <;> simp [thing] at t
  | _, .tuple (.none :: _ :: _), _, t, _ => by simp [thing] at t
  | _, .tuple (.bool _ :: _ :: _), _, t, _ => by simp [thing] at t
  | _, .tuple (.int _ :: _ :: _), _, t, _ => by simp [thing] at t
  | _, .tuple (.list _ :: _ :: _), _, t, _ => by simp [thing] at t
  | _, .tuple (.tuple _ :: _ :: _), _, t, _ => by simp [thing] at t
  | _, .tuple (.dict _ :: _ :: _), _, t, _ => by simp [thing] at t
  | .none, _, t, _, _ => by simp [thing] at t
  | .bool _, _, t, _, _ => by simp [thing] at t
  | .int _, _, t, _, _ => by simp [thing] at t
  | .list _, _, t, _, _ => by simp [thing] at t
  | .dict _, _, t, _, _ => by simp [thing] at t
  | _, .none, _, t, _ => by simp [thing] at t
  | _, .bool _, _, t, _ => by simp [thing] at t
  | _, .int _, _, t, _ => by simp [thing] at t
  | _, .list _, _, t, _ => by simp [thing] at t
  | _, .dict _, _, t, _ => by simp [thing] at t
theorem eqvs_of : ∀ (ds es : List PyData), thingAll ds = true → thingAll es = true → PyData.eqvAll ds es = true → ds = es
  | [], [], _, _, _ => rfl
  | [], _ :: _, _, _, h => by simp [PyData.eqvAll] at h
  | _ :: _, [], _, _, h => by simp [PyData.eqvAll] at h
  | d :: ds, e :: es, t, t', h => by
    have a : thing d = true ∧ thingAll ds = true := by simpa [thingAll] using t
    have b : thing e = true ∧ thingAll es = true := by simpa [thingAll] using t'
    have h' : PyData.eqv d e = true ∧ PyData.eqvAll ds es = true := by simpa [PyData.eqvAll, Bool.and_eq_true] using h
    rw [eqv_of d e a.1 b.1 h'.1, eqvs_of ds es a.2 b.2 h'.2]
end
theorem WorldAt.keep {K : PySem.W.Frag} {H H' : Hp} {dk dl wd : Addr} {t : Int} {ks : List (Str × Int)} {os : List Opn} (h : WorldAt K H wd ks os) (D : DeckAt H dk dl t) (k : Keep dk dl H H') : WorldAt K H' wd ks os := by
  obtain ⟨s, y, ps, as, h1, h2, h3⟩ := h.ex
  obtain ⟨⟨m, e1, _⟩, ⟨cs, e2, _⟩⟩ := id D
  refine ⟨⟨s, y, ps, as, k _ _ (fun z => ?_) (ne_of h1 e2 (by intro z; cases z)) h1, ks_keep D k h2, os_keep D k h3⟩, h.kok, h.ook⟩
  rw [z, e1] at h1
  injection h1 with h1
  injection h1 with h1
  exact absurd (congrArg List.length h1) (by simp [deckD, worldD])
theorem same_off {H G : Hp} {p : Addr} {o : HO} (k : Same H G) (np : H p = none) : Same H (upd G p o) := fun c u e => (upd_ne (ne_of_none e np)).trans (k c u e)
theorem dps_get {K : PySem.W.Frag} {H : Hp} {ws : List V} {ds : List PyData} {j m : Int} (h : DpAll K H ws ds) (hm : (ds.length : Int) = m) (j0 : 0 ≤ j) (j1 : j < m) (x : V) : ∃ v d, atI (x :: ws) (1 + j) = some v ∧ ds[j.toNat]? = some d ∧ Dp K H v d := by
  have hj : j.toNat < ds.length := by omega
  obtain ⟨v, e, hd⟩ := dps_at h (List.getElem?_eq_getElem hj)
  refine ⟨v, ds[j.toNat], ?_, List.getElem?_eq_getElem hj, hd⟩
  have : (1 + j : Int) = ((j.toNat + 1 : Nat) : Int) := by omega
  rw [this]
  exact atI_nat (by rw [List.getElem?_cons_succ]; exact e)
theorem allSome_snoc {a : List (Option PyData)} {d : PyData} {l : List PyData} (h : allSome a = some l) : allSome (a ++ [some d]) = some (l ++ [d]) := by
  rw [allSome_some] at h ⊢
  rw [h, List.map_append]
  rfl
theorem take_map_snoc {α β : Type} {l : List α} {f : α → β} {i : Nat} {x : α} (h : l[i]? = some x) : (l.take (i + 1)).map f = (l.take i).map f ++ [f x] := by
  rw [List.take_add_one, h, List.map_append]
  rfl
theorem not_whole {x : V} {zs : List V} : ¬ (HT.sIx (x :: zs).length 0 (some 1) = 0 ∧ HT.sIx (x :: zs).length (x :: zs).length none = (x :: zs).length) := fun z => by
  have e := HT.sIx_nat (x :: zs).length 0 1
  have z1 := z.1
  rw [show ((1 : Nat) : Int) = 1 from rfl] at e
  rw [e, Nat.min_eq_left (by rw [List.length_cons]; omega)] at z1
  cases z1
theorem sqT_tyT {K : PySem.W.Frag} {H : Hp} {a : Addr} {xs : List V} (h : SqT K H a xs) : TyX K H (.ref a) (.type "tuple") := sqT_ty' h
theorem lot_str (c : Str) : lot (.str c) = [.str c] := by simp [lot]
theorem lot_tup (c : Str) (ps : List PyData) : lot (.tuple (.str c :: ps)) = .tuple (.str c :: ps) :: ps.flatMap lot := lot_eq _
theorem flat_snoc {ps : List PyData} {i : Nat} {x : PyData} (h : ps[i]? = some x) : (ps.take (i + 1)).flatMap lot = (ps.take i).flatMap lot ++ lot x := by
  rw [List.take_add_one, h, List.flatMap_append]
  simp
theorem mem_szs {d : PyData} : ∀ {ds : List PyData}, d ∈ ds → sz d ≤ (ds.map sz).sum
  | e :: ds, h => by
    rw [List.map_cons, List.sum_cons]
    rcases List.mem_cons.mp h with rfl | h
    · omega
    · have := mem_szs h
      omega
theorem want_it0 {ks : List (Str × Int)} {n : Nd} {ds : List PyData} {d : PyData} {m : Int} (kv : ∀ p ∈ ks, p.1 ∈ KWd) (hp : ∀ d ∈ ds, ItK ks d) (hn : NdOk m ks n) (h : wantD n ds = some d) : ItK ks d :=
  (want_it (k := (ds.map sz).sum) kv (fun d hd => ⟨hp d hd, mem_szs hd⟩) hn h).1
theorem wants_it {ks : List (Str × Int)} {ns : List Nd} {ds : List PyData} {l : List PyData} {m : Int} (kv : ∀ p ∈ ks, p.1 ∈ KWd) (hp : ∀ d ∈ ds, ItK ks d) (hn : ∀ n ∈ ns, NdOk m ks n) (h : allSome (ns.map fun n => wantD n ds) = some l) : ∀ d ∈ l, ItK ks d := fun d hd => by
  have md : some d ∈ ns.map fun n => wantD n ds := by rw [allSome_some.mp h]; exact List.mem_map_of_mem hd
  obtain ⟨n', hn', e'⟩ := List.mem_map.mp md
  exact want_it0 kv hp (hn n' hn') e'
def insD (c : Str) : PyData → Option PyData
  | .tuple (.str c' :: d1 :: _) => if c' = c then some d1 else none
  | _ => none
theorem want_inside {j : Int} {c : Str} {ds : List PyData} {d : PyData} (h : ds[j.toNat]? = some d) : wantD (.inside j c) ds = insD c d := by
  show (ds[j.toNat]?).bind _ = _
  rw [h]
  rfl
theorem ix0 {x : V} {xs : List V} : atI (x :: xs) 0 = some x := atI_nat (j := 0) rfl
theorem ix1 {x y : V} {xs : List V} : atI (x :: y :: xs) 1 = some y := atI_nat (j := 1) rfl
theorem ix2 {x y z : V} {xs : List V} : atI (x :: y :: z :: xs) 2 = some z := atI_nat (j := 2) rfl
theorem ix3 {x y z u : V} {xs : List V} : atI (x :: y :: z :: u :: xs) 3 = some u := atI_nat (j := 3) rfl
/-- len(..) of a list or tuple, said over the def's own K -/
def rLenK (K : PySem.W.Frag) : List V → Hp → VK → Prop := fun xs H Q => ∃ p ys, xs = [V.ref p] ∧ (SqL K H p ys ∨ SqT K H p ys) ∧ Q (V.int ys.length) H
theorem call_len_seqK {X : Cx} {K : PySem.W.Frag} (e : X.K = K) : CallR X (.builtin "len") (rLenK K) := by
  subst e
  exact call_len_seq
theorem op_eqDK {X : Cx} {K : PySem.W.Frag} (e : X.K = K) (hu : X.A.units + 64 < cLine) : OpR X (compareOp .Eq) (rEqD K) := by
  subst e
  exact op_eqD hu
theorem op_neDK {X : Cx} {K : PySem.W.Frag} (e : X.K = K) (hu : X.A.units + 64 < cLine) : OpR X (compareOp .NotEq) (rNeD K) := by
  subst e
  exact op_neD hu
theorem dps_mem {K : PySem.W.Frag} {H : Hp} : ∀ {vs : List V} {ds : List PyData} {v : V}, DpAll K H vs ds → v ∈ vs → ∃ d ∈ ds, Dp K H v d
  | _, _, _, .cons h r, m => by
    rcases List.mem_cons.mp m with rfl | m
    · exact ⟨_, List.mem_cons_self .., h⟩
    · obtain ⟨d, hd, h2⟩ := dps_mem r m
      exact ⟨d, List.mem_cons_of_mem _ hd, h2⟩
theorem paired_mem1 {α β : Type} {R : α → β → Prop} : ∀ {as : List α} {bs : List β} {a : α}, Paired R as bs → a ∈ as → ∃ b ∈ bs, R a b
  | _, _, _, .cons h r, m => by
    rcases List.mem_cons.mp m with rfl | m
    · exact ⟨_, List.mem_cons_self .., h⟩
    · obtain ⟨d, hd, h2⟩ := paired_mem1 r m
      exact ⟨d, List.mem_cons_of_mem _ hd, h2⟩
theorem ks_fun {ks : List (Str × Int)} (nd : (ks.map (·.1)).Nodup) {c : Str} {m m' : Int} (h : (c, m) ∈ ks) (h' : (c, m') ∈ ks) : m = m' := by
  induction ks with
  | nil => exact (List.not_mem_nil h).elim
  | cons p ks ih =>
    rw [List.map_cons, List.nodup_cons] at nd
    rcases List.mem_cons.mp h with e | h1
    · rcases List.mem_cons.mp h' with e' | h2
      · cases e.trans e'.symm
        rfl
      · exact absurd (List.mem_map.mpr ⟨(c, m'), h2, by rw [← e]⟩) nd.1
    · rcases List.mem_cons.mp h' with e' | h2
      · exact absurd (List.mem_map.mpr ⟨(c, m), h1, by rw [← e']⟩) nd.1
      · exact ih nd.2 h1 h2
structure WayOk (ks : List (Str × Int)) (os : List Opn) (o : Opn) (c : Str) (ds : List PyData) : Prop where
  mem : o ∈ os
  k : o.k = c
  nd : ∀ n ∈ o.nn, NdOk (ds.length : Int) ks n
  len : o.nn.length ≤ 2
  g0 : 0 ≤ o.g
  g1 : o.g < (ds.length : Int)
theorem opn_ok {ks : List (Str × Int)} {os : List Opn} (ko : KsOk ks) (oo : OsOk ks os) {o : Opn} (ho : o ∈ os) {ds : List PyData} (h : ItK ks (.tuple (.str o.k :: ds))) : WayOk ks os o o.k ds := by
  obtain ⟨m, h1, h2, h3, h4, h5⟩ := (oo.each o ho).ex
  have e := ks_fun ko.nd h1 h.kid.1
  subst e
  exact ⟨ho, rfl, h5, h4, h2, h3⟩
theorem way_ok {ks : List (Str × Int)} {os : List Opn} (ko : KsOk ks) (oo : OsOk ks os) {d : PyData} (h : ItK ks d) {o : Opn} (ho : o ∈ waysAt os d) : ∃ c ds, d = .tuple (.str c :: ds) ∧ WayOk ks os o c ds := by
  rcases itm_cases h.it with ⟨c, rfl, _⟩ | ⟨c, ps, rfl, _⟩
  · exact (List.not_mem_nil ho).elim
  · obtain ⟨h1, h2⟩ := List.mem_filter.mp ho
    have e := of_decide_eq_true h2
    subst e
    exact ⟨_, ps, rfl, opn_ok ko oo h1 h⟩
theorem ways_len {os : List Opn} {d : PyData} : (waysAt os d).length ≤ os.length := by
  unfold waysAt
  split
  · exact List.length_filter_le ..
  · exact Nat.zero_le _
theorem eqv_nil {ds : List PyData} : PyData.eqv (.list ds) (.list []) = ds.isEmpty := by
  cases ds <;> simp [PyData.eqv, PyData.eqvAll]
/-- a list of wanted things, or None -/
def WAt (K : PySem.W.Frag) (H : Hp) (ks : List (Str × Int)) (ok : Addr → Prop) (v : V) : Option (List PyData) → Prop
  | none => v = .non
  | some l => ∃ (p : Addr) (us : List V), v = .ref p ∧ ok p ∧ H p = some (.lst us) ∧ DpAll K H us l ∧ (∀ d ∈ l, ItK ks d ∧ sz d ≤ 41) ∧ l.length ≤ 3
theorem WAt.mono {K : PySem.W.Frag} {H H' : Hp} {ks : List (Str × Int)} {ok ok' : Addr → Prop} (h1 : ∀ p us, ok p → H p = some (.lst us) → H' p = some (.lst us)) (h2 : ∀ p us, ok p → H p = some (.lst us) → ok' p) (kt : KTu K H H') {v : V} {x : Option (List PyData)} (h : WAt K H ks ok v x) : WAt K H' ks ok' v x := by
  cases x with
  | none => exact h
  | some l =>
    obtain ⟨p, us, e, o, hp, hd, hi⟩ := h
    exact ⟨p, us, e, h2 p us o hp, h1 p us o hp, its_kt kt (fun d hd => (hi.1 d hd).1) hd, hi⟩
theorem WAt.dp {K : PySem.W.Frag} {H : Hp} {ks : List (Str × Int)} {ok : Addr → Prop} {v : V} {l : List PyData} (h : WAt K H ks ok v (some l)) : Dp K H v (.list l) := by
  obtain ⟨p, us, rfl, _, hp, hd, _⟩ := h
  exact .lst (SqL.of hp) hd
theorem shapedI {ks : List (Str × Int)} {l : List PyData} (h : ∀ d ∈ l, ItK ks d ∧ sz d ≤ 50) : SeqAt.shaped (.list l) = true :=
  shapedL (fun d hd => (h d hd).1.lay) fun d hd => by have := (h d hd).1.dep; have := (h d hd).2; omega
theorem wats_dp {K : PySem.W.Frag} {H : Hp} {ks : List (Str × Int)} {ok : Addr → Prop} : ∀ {us : List V} {ls : List (List PyData)}, Paired (fun v l => WAt K H ks ok v (some l)) us ls → DpAll K H us (ls.map PyData.list)
  | _, _, .nil => .nil
  | _, _, .cons h r => .cons h.dp (wats_dp r)
theorem room65 {k : Nat} {A : Around} (r : Room k A) : A.units + 65 < cLine := by have := r.un; omega
theorem any_none : ∀ (a : List (Option PyData)), (∀ d, some d ∈ a → thing d = true) → ((a.map optD).any fun z => PyData.eqv z .none) = (allSome a).isNone ∧ ∀ l, allSome a = some l → a.map optD = l
  | [], _ => ⟨rfl, fun l h => by cases h; rfl⟩
  | none :: r, _ => ⟨by simp [optD, allSome, PyData.eqv], fun l h => by cases h⟩
  | some d :: r, h => by
    obtain ⟨h1, h2⟩ := any_none r fun e he => h e (List.mem_cons_of_mem _ he)
    have hd := h d (List.mem_cons_self ..)
    refine ⟨?_, fun l e => ?_⟩
    · rw [List.map_cons, List.any_cons, h1]
      show (PyData.eqv d .none || _) = ((allSome r).map _).isNone
      rw [eqv_non hd]
      cases allSome r <;> rfl
    · have e : (allSome r).map (d :: ·) = some l := e
      obtain ⟨l', e1, rfl⟩ := Option.map_eq_some_iff.mp e
      rw [List.map_cons, h2 l' e1]
      rfl
theorem shapedO {ks : List (Str × Int)} {a : List (Option PyData)} (h : ∀ d, some d ∈ a → ItK ks d ∧ sz d ≤ 50) : SeqAt.shaped (.list (a.map optD)) = true := by
  refine shapedL (fun d hd => ?_) (fun d hd => ?_)
  · obtain ⟨x, hx, rfl⟩ := List.mem_map.mp hd
    cases x with
    | none => rfl
    | some d => exact (h d hx).1.lay
  · obtain ⟨x, hx, rfl⟩ := List.mem_map.mp hd
    cases x with
    | none => simp [optD, PyData.depth]
    | some d =>
      have := (h d hx).1.dep
      have := (h d hx).2
      show d.depth ≤ 60
      omega
theorem opt_ktI {K : PySem.W.Frag} {H H' : Hp} (kt : KTu K H H') {v : V} {x : Option PyData} {ks : List (Str × Int)} (t : ∀ d, x = some d → ItK ks d) (h : Dp K H v (optD x)) : Dp K H' v (optD x) := opt_kt kt (fun d e => (t d e).th) h
theorem eqv_lists {l r : List PyData} (hl : thingAll l = true) (hr : thingAll r = true) (lay : PyData.canLayAll0 l = true) : PyData.eqv (.list l) (.list r) = true ↔ l = r := by
  constructor
  · intro h
    exact eqvs_of l r hl hr (by simpa [PyData.eqv] using h)
  · intro h
    subst h
    exact SeqAt.eqv_refl (.list l) (by simpa only [PyData.canLay0] using lay)
theorem sqL_same {K : PySem.W.Frag} {H H' : Hp} {a : Addr} {xs : List V} (k : Same H H') (h : SqL K H a xs) : SqL K H' a xs := by
  rcases h with (h | ⟨o, h⟩) | h
  · exact .inl (.inl (k _ _ h))
  · exact .inl (.inr ⟨o, k _ _ h⟩)
  · exact .inr h
theorem opn_kt {K : PySem.W.Frag} {H H' : Hp} (k : KTu K H H') {a : Addr} {o : Opn} (h : OpnAt K H a o) : OpnAt K H' a o :=
  let ⟨b, as, h1, h2, h3⟩ := h
  ⟨b, as, k _ _ h1, k _ _ h2, paired_mono (fun _ (n : Nd) h => k _ _ h) h3⟩
theorem lt_irr (l : List Nat) : ¬ l < l := List.lt_irrefl l
theorem asc_nodup {l : List Str} (h : Asc l) : l.Nodup := by
  have tr : ∀ {a b c : List Nat}, a < b → b < c → a < c := fun h1 h2 => List.lt_trans h1 h2
  have lt : ∀ (j i : Nat) (a b : Str), i < j → l[i]? = some a → l[j]? = some b → a.cps.toList < b.cps.toList := by
    intro j
    induction j with
    | zero => intro i a b z; omega
    | succ j ih =>
      intro i a b hij ha hb
      have hj : j < l.length := by have := (List.getElem?_eq_some_iff.mp hb).1; omega
      have hc : l[j]? = some l[j] := List.getElem?_eq_getElem hj
      have h2 := h j l[j] b hc hb
      rcases Nat.lt_or_ge i j with z | z
      · exact tr (ih i a l[j] z ha hc) h2
      · have : i = j := by omega
        subst this
        rw [hc] at ha
        cases ha
        exact h2
  rw [List.nodup_iff_pairwise_ne, List.pairwise_iff_getElem]
  intro i j hi hj hij e
  have := lt j i l[i] l[j] hij (List.getElem?_eq_getElem hi) (List.getElem?_eq_getElem hj)
  rw [e] at this
  exact lt_irr _ this
theorem opn_one {ks : List (Str × Int)} {os : List Opn} (oo : OsOk ks os) {a b : Opn} (ha : a ∈ os) (hb : b ∈ os) (e : a.w = b.w) : a = b := by
  have nd := asc_nodup oo.asc
  clear oo
  induction os with
  | nil => exact (List.not_mem_nil ha).elim
  | cons o os ih =>
    rw [List.map_cons, List.nodup_cons] at nd
    rcases List.mem_cons.mp ha with e1 | h1
    · rcases List.mem_cons.mp hb with e2 | h2
      · rw [e1, e2]
      · exact absurd (List.mem_map.mpr ⟨b, h2, by rw [← e, e1]⟩) nd.1
    · rcases List.mem_cons.mp hb with e2 | h2
      · exact absurd (List.mem_map.mpr ⟨a, h1, by rw [e, e2]⟩) nd.1
      · exact ih h1 h2 nd.2
theorem open_yes {o : Opn} {ds rest : List PyData} (h : wantsD o ds = some rest) : openS o (.tuple (.str o.k :: ds) :: rest) = ds[o.g.toNat]? := if_pos ⟨rfl, h⟩
theorem open_no {o : Opn} {ds rest : List PyData} (h : ¬ wantsD o ds = some rest) : openS o (.tuple (.str o.k :: ds) :: rest) = none := if_neg fun z => h z.2
theorem open_k {o : Opn} {c : Str} {ds rest : List PyData} (h : ¬ c = o.k) : openS o (.tuple (.str c :: ds) :: rest) = none := if_neg fun z => h z.1
def opD (o : Opn) : PyData := .tuple [.str o.w, .str o.k, .int o.g, .tuple (o.nn.map ndD)]
theorem nd_dp {K : PySem.W.Frag} {H : Hp} {a : Addr} {n : Nd} (h : SqT K H a (ndV n)) : Dp K H (.ref a) (ndD n) := by
  cases n with
  | part j => exact .tup h (.cons (.str _) (.cons (.int _) .nil))
  | around c j => exact .tup h (.cons (.str _) (.cons (.str _) (.cons (.int _) .nil)))
  | inside j c => exact .tup h (.cons (.str _) (.cons (.int _) (.cons (.str _) .nil)))
theorem nds_dp {K : PySem.W.Frag} {H : Hp} : ∀ {as : List Addr} {ns : List Nd}, Paired (fun x n => SqT K H x (ndV n)) as ns → DpAll K H (as.map V.ref) (ns.map ndD)
  | _, _, .nil => .nil
  | _, _, .cons h r => .cons (nd_dp h) (nds_dp r)
theorem opn_dp {K : PySem.W.Frag} {H : Hp} {a : Addr} {o : Opn} (h : OpnAt K H a o) : Dp K H (.ref a) (opD o) := by
  obtain ⟨b, as, h1, h2, h3⟩ := h
  exact .tup h1 (.cons (.str _) (.cons (.str _) (.cons (.int _) (.cons (.tup h2 (nds_dp h3)) .nil))))
theorem opns_dp {K : PySem.W.Frag} {H : Hp} : ∀ {as : List Addr} {os : List Opn}, Paired (OpnAt K H) as os → DpAll K H (as.map V.ref) (os.map opD)
  | _, _, .nil => .nil
  | _, _, .cons h r => .cons (opn_dp h) (opns_dp r)
theorem nd_words : PyData.strOk (PySem.Str.ofString "part") = true ∧ PyData.strOk (PySem.Str.ofString "around") = true ∧ PyData.strOk (PySem.Str.ofString "inside") = true := by decide +kernel
theorem nd_lay {n : Nd} {m : Int} {ks : List (Str × Int)} (kw : ∀ p ∈ ks, p.1 ∈ KWd) (h : NdOk m ks n) : (ndD n).canLay0 = true ∧ (ndD n).depth ≤ 1 := by
  cases n with
  | part j =>
    refine ⟨?_, by simp [ndD, PyData.depth, PyData.depthAll]⟩
    simp only [ndD, PyData.canLay0, PyData.canLayAll0, Bool.and_eq_true]
    exact ⟨nd_words.1, trivial, trivial⟩
  | around c j =>
    refine ⟨?_, by simp [ndD, PyData.depth, PyData.depthAll]⟩
    simp only [ndD, PyData.canLay0, PyData.canLayAll0, Bool.and_eq_true]
    exact ⟨nd_words.2.1, kv_strOk _ (kw _ h.1), trivial, trivial⟩
  | inside j c =>
    refine ⟨?_, by simp [ndD, PyData.depth, PyData.depthAll]⟩
    simp only [ndD, PyData.canLay0, PyData.canLayAll0, Bool.and_eq_true]
    exact ⟨nd_words.2.2, trivial, kv_strOk _ (kw _ h.1), trivial⟩
theorem opn_lay {o : Opn} {ks : List (Str × Int)} {os : List Opn} (ko : KsOk ks) (oo : OsOk ks os) (ho : o ∈ os) : (opD o).canLay0 = true ∧ (opD o).depth ≤ 3 := by
  have w := oo.each o ho
  obtain ⟨m, h1, _, _, _, h5⟩ := w.ex
  have all : ∀ d ∈ o.nn.map ndD, d.canLay0 = true ∧ d.depth ≤ 1 := fun d hd => by
    obtain ⟨n, hn, rfl⟩ := List.mem_map.mp hd
    exact nd_lay ko.ww (h5 n hn)
  have a1 : PyData.canLayAll0 (o.nn.map ndD) = true := lays_iff.mpr fun d hd => (all d hd).1
  have a2 : PyData.depthAll (o.nn.map ndD) ≤ 1 := deps_le.mpr fun d hd => (all d hd).2
  refine ⟨?_, ?_⟩
  · simp only [opD, PyData.canLay0, PyData.canLayAll0, Bool.and_eq_true]
    exact ⟨kv_strOk _ w.ww, kv_strOk _ (ko.ww _ h1), trivial, a1, trivial⟩
  · simp only [opD, PyData.depth, PyData.depthAll]
    omega
theorem opns_shaped {ks : List (Str × Int)} {os : List Opn} (ko : KsOk ks) (oo : OsOk ks os) : SeqAt.shaped (.tuple (os.map opD)) = true := by
  refine shapedD ?_ ?_
  · simp only [PyData.canLay0]
    exact lays_iff.mpr fun d hd => by
      obtain ⟨o, ho, rfl⟩ := List.mem_map.mp hd
      exact (opn_lay ko oo ho).1
  · have : PyData.depthAll (os.map opD) ≤ 3 := deps_le.mpr fun d hd => by
      obtain ⟨o, ho, rfl⟩ := List.mem_map.mp hd
      exact (opn_lay ko oo ho).2
    simp only [PyData.depth]
    omega
theorem opns_shapedL {ks : List (Str × Int)} {os os' : List Opn} (ko : KsOk ks) (oo : OsOk ks os) (sub : ∀ o ∈ os', o ∈ os) : SeqAt.shaped (.list (os'.map opD)) = true := by
  refine shapedL (fun d hd => ?_) (fun d hd => ?_)
  · obtain ⟨o, ho, rfl⟩ := List.mem_map.mp hd
    exact (opn_lay ko oo (sub o ho)).1
  · obtain ⟨o, ho, rfl⟩ := List.mem_map.mp hd
    have := (opn_lay ko oo (sub o ho)).2
    omega
theorem eqv_nilT {ds : List PyData} : PyData.eqv (.tuple ds) (.tuple []) = ds.isEmpty := by
  cases ds <;> simp [PyData.eqv, PyData.eqvAll]
theorem ways_sub {os : List Opn} {d : PyData} : ∀ o ∈ waysAt os d, o ∈ os := fun o ho => by
  unfold waysAt at ho
  split at ho
  · exact (List.mem_filter.mp ho).1
  · exact (List.not_mem_nil ho).elim
theorem nats_shaped (ns : List Nat) : SeqAt.shaped (.list (ns.map natD)) = true := by
  refine shapedL (fun d hd => ?_) (fun d hd => ?_)
  · obtain ⟨n, _, rfl⟩ := List.mem_map.mp hd
    rfl
  · obtain ⟨n, _, rfl⟩ := List.mem_map.mp hd
    simp [natD, PyData.depth]
theorem shapedNon : SeqAt.shaped .none = true := by decide +kernel
theorem shapedNil : SeqAt.shaped (.list []) = true := by decide +kernel
theorem shapedNilT : SeqAt.shaped (.tuple []) = true := by decide +kernel
theorem ItK.shaped {ks : List (Str × Int)} {d : PyData} (h : ItK ks d) (s : sz d ≤ 60) : SeqAt.shaped d = true := shapedD h.lay (by have := h.dep; omega)
theorem at_zero {α : Type} {xs : List α} {i : Nat} {v : α} (h : xs[i]? = some v) : atI xs (0 + (i : Int)) = some v := by
  rw [Int.zero_add]
  exact atI_nat h
theorem rg_nats (n : Nat) : rgV 0 (n : Int) = (List.range n).map natV := by
  unfold rgV
  have e : ((n : Int) - 0).toNat = n := by omega
  rw [e]
  refine List.map_congr_left fun i _ => ?_
  show V.int (0 + (i : Int)) = V.int (i : Int)
  rw [Int.zero_add]
theorem isE_map {α β : Type} {l : List α} {f : α → β} (h : l ≠ []) : (l.map f).isEmpty = false := by
  cases l with
  | nil => exact absurd rfl h
  | cons _ _ => rfl
theorem open_inv {o : Opn} {c' : Str} {ds rest : List PyData} {d : PyData} (e : openS o (.tuple (.str c' :: ds) :: rest) = some d) : c' = o.k ∧ wantsD o ds = some rest ∧ ds[o.g.toNat]? = some d := by
  by_cases h : c' = o.k
  · subst h
    by_cases h2 : wantsD o ds = some rest
    · rw [open_yes h2] at e
      exact ⟨rfl, h2, e⟩
    · rw [open_no h2] at e
      cases e
  · rw [open_k h] at e
    cases e
theorem st_words : PyData.strOk (lsS "shown") = true ∧ PyData.strOk (lsS "word") = true ∧ PyData.strOk (lsS "make") = true ∧ PyData.strOk (lsS "open") = true := by decide +kernel
theorem nats_lay (ns : List Nat) : PyData.canLayAll0 (ns.map natD) = true ∧ PyData.depthAll (ns.map natD) ≤ 0 := by
  refine ⟨lays_iff.mpr fun d hd => ?_, deps_le.mpr fun d hd => ?_⟩
  · obtain ⟨n, _, rfl⟩ := List.mem_map.mp hd
    rfl
  · obtain ⟨n, _, rfl⟩ := List.mem_map.mp hd
    simp [natD, PyData.depth]
theorem st_lay {ks : List (Str × Int)} {os : List Opn} {n at_ : Nat} {s : Stp} (ko : KsOk ks) (oo : OsOk ks os) (h : StOk ks os n at_ s) : (stD s).canLay0 = true ∧ (stD s).depth ≤ 2 := by
  have wd : ∀ (a b : Str) (ns : List Nat), PyData.strOk a = true → PyData.strOk b = true → (PyData.tuple [.str a, .str b, .tuple (ns.map natD)]).canLay0 = true ∧ (PyData.tuple [.str a, .str b, .tuple (ns.map natD)]).depth ≤ 2 := fun a b ns h1 h2 => by
    obtain ⟨a1, a2⟩ := nats_lay ns
    refine ⟨?_, ?_⟩
    · simp only [PyData.canLay0, PyData.canLayAll0, Bool.and_eq_true]
      exact ⟨h1, h2, a1, trivial⟩
    · simp only [PyData.depth, PyData.depthAll]
      omega
  cases s with
  | shown i =>
    refine ⟨?_, by simp [stD, PyData.depth, PyData.depthAll]⟩
    simp only [stD, PyData.canLay0, PyData.canLayAll0, Bool.and_eq_true]
    exact ⟨st_words.1, trivial, trivial⟩
  | word x =>
    refine ⟨?_, by simp [stD, PyData.depth, PyData.depthAll]⟩
    simp only [stD, PyData.canLay0, PyData.canLayAll0, Bool.and_eq_true]
    exact ⟨st_words.2.1, iv_strOk x h.1, trivial⟩
  | make c ns => exact wd _ _ ns st_words.2.2.1 (kv_strOk c (ko.ww _ h.1))
  | opn c ns =>
    obtain ⟨⟨o, ho, rfl, _⟩, _⟩ := h
    exact wd _ _ ns st_words.2.2.2 (kv_strOk _ (oo.each o ho).ww)
theorem sts_shaped {ks : List (Str × Int)} {os : List Opn} {n : Nat} {ss : List Stp} (ko : KsOk ks) (oo : OsOk ks os) (h : RcOk ks os n ss) : SeqAt.shaped (.list (ss.map stD)) = true := by
  have all : ∀ d ∈ ss.map stD, d.canLay0 = true ∧ d.depth ≤ 2 := fun d hd => by
    obtain ⟨s, hs, rfl⟩ := List.mem_map.mp hd
    obtain ⟨i, hi⟩ := List.getElem?_of_mem hs
    exact st_lay ko oo (h i s hi)
  exact shapedL (fun d hd => (all d hd).1) fun d hd => by have := (all d hd).2; omega
theorem sts_dp {K : PySem.W.Frag} {H : Hp} : ∀ {vs : List V} {ss : List Stp}, Paired (StAt K H) vs ss → DpAll K H vs (ss.map stD)
  | _, _, .nil => .nil
  | _, _, .cons h r => .cons h.dp (sts_dp r)
theorem RcOk.snoc {ks : List (Str × Int)} {os : List Opn} {n : Nat} {ss : List Stp} {s : Stp} (h : RcOk ks os n ss) (hs : StOk ks os n ss.length s) : RcOk ks os n (ss ++ [s]) := fun i x hx => by
  rcases Nat.lt_or_ge i ss.length with l | l
  · rw [List.getElem?_append_left l] at hx
    exact h i x hx
  · rw [List.getElem?_append_right l] at hx
    have : i - ss.length = 0 := by
      have := (List.getElem?_eq_some_iff.mp hx).1
      simp at this
      omega
    rw [this] at hx
    cases hx
    have e : i = ss.length := by omega
    rw [e]
    exact hs
/-- what a step comes to is a thing -/
theorem worth_it {ks : List (Str × Int)} {os : List Opn} {items : List PyData} {xs : List (Option PyData)} {s : Stp} {d : PyData} (ko : KsOk ks) (oo : OsOk ks os) (its : ∀ d ∈ items, ItK ks d) (xok : ∀ d, some d ∈ xs → ItK ks d) (h : StOk ks os items.length xs.length s) (e : worthS os items xs s = some d) : ItK ks d := by
  have own : ∀ {ns : List Nat} {l : List PyData}, allSome (ns.map fun n => (xs[n]?).join) = some l → l.length = ns.length ∧ ∀ d ∈ l, ItK ks d := fun {ns l} hl => by
    have e := allSome_some.mp hl
    refine ⟨by have := congrArg List.length e; rw [List.length_map, List.length_map] at this; omega, fun d hd => ?_⟩
    have md : some d ∈ ns.map fun n => (xs[n]?).join := by rw [e]; exact List.mem_map_of_mem hd
    obtain ⟨n', _, e'⟩ := List.mem_map.mp md
    exact xok d (List.mem_of_getElem? (Option.join_eq_some_iff.mp e'))
  cases s with
  | shown i => exact its d (List.mem_of_getElem? e)
  | word x =>
    cases e
    exact ItK.str h.1
  | make c ns =>
    obtain ⟨l, hl, rfl⟩ := Option.map_eq_some_iff.mp e
    obtain ⟨ll, lo⟩ := own hl
    have := (ko.num _ h.1).1
    dsimp only at this
    exact ItK.tup (by rw [ll]; exact h.1) (ko.ww _ h.1) (fun z => by rw [z] at ll; simp at ll; omega) lo
  | opn c ns =>
    obtain ⟨l, hl, e⟩ := Option.bind_eq_some_iff.mp e
    obtain ⟨o, ho, e⟩ := Option.bind_eq_some_iff.mp e
    obtain ⟨ll, lo⟩ := own hl
    match l, e with
    | .tuple (.str c' :: ds) :: rest, e =>
      exact (lo _ (List.mem_cons_self ..)).kid.2.2 d (List.mem_of_getElem? (open_inv e).2.2)
theorem open_sz {ks : List (Str × Int)} {os : List Opn} {items : List PyData} {xs : List (Option PyData)} {c : Str} {ns : List Nat} {d : PyData} {k : Nat} (xok : ∀ d, some d ∈ xs → ItK ks d ∧ sz d ≤ k) (e : worthS os items xs (.opn c ns) = some d) : sz d ≤ k := by
  obtain ⟨l, hl, e⟩ := Option.bind_eq_some_iff.mp e
  obtain ⟨o, ho, e⟩ := Option.bind_eq_some_iff.mp e
  have own : ∀ d ∈ l, sz d ≤ k := fun d hd => by
    have md : some d ∈ ns.map fun n => (xs[n]?).join := by rw [allSome_some.mp hl]; exact List.mem_map_of_mem hd
    obtain ⟨n', _, e'⟩ := List.mem_map.mp md
    exact (xok d (List.mem_of_getElem? (Option.join_eq_some_iff.mp e'))).2
  match l, own, e with
  | .tuple (.str c' :: ds) :: rest, own, e =>
    have := own _ (List.mem_cons_self ..)
    have : sz d + 1 ≤ sz (.tuple (.str c' :: ds)) := kid_sz (show d ∈ kids (.tuple (.str c' :: ds)) from List.mem_of_getElem? (open_inv e).2.2)
    omega
theorem sum_le {k : Nat} {l : List Nat} (h : ∀ x ∈ l, x ≤ k) : l.sum ≤ k * l.length := by
  induction l with
  | nil => exact Nat.le_refl _
  | cons x l ih =>
    have h1 := h x (List.mem_cons_self ..)
    have h2 := ih fun y hy => h y (List.mem_cons_of_mem _ hy)
    simp only [List.sum_cons, List.length_cons, Nat.mul_add, Nat.mul_one]
    omega
theorem natV_of {q : Int} (h : 0 ≤ q) : natV q.toNat = .int q := by
  show V.int ((q.toNat : Nat) : Int) = _
  rw [Int.toNat_of_nonneg h]
end Mine

namespace K15
open PySem L2
def top (i : Nat) : Stmt := PySem.Challenge.pw_sealedalike_k15_written_sizes_and_texts.main.body.getD i (.Pass ⟨0, 0, 0, 0⟩)
end K15


set_option Elab.async false
set_option linter.all false
set_option maxRecDepth 100000
set_option maxHeartbeats 1000000
namespace K15
open PySem PySem.Spec PyProof.Rows L2 Mine TL StX SkE
set_option maxHeartbeats 4000000
abbrev sDeck : Stmt := top 17
abbrev sDraw : Stmt := top 18
abbrev sPick : Stmt := top 19
abbrev sNeed : Stmt := top 21
abbrev sTold : Stmt := top 20
abbrev sNeedW : Stmt := top 21
abbrev sWorld : Stmt := top 22
section
variable {P : Program} {w : World} {K : PySem.W.Frag} {mg : Str → Option Value} {base : Heap}
theorem scDraw : FnScope ["_law_deck_here", "_law_many", "_law_at", "_law_made", "_law_cell"] ["_law_deck_here", "_law_many"] (defScope sDraw) := ⟨rfl, rfl, rfl, by decide +kernel, rfl, by decide +kernel, by decide +kernel⟩
theorem ok_draw {f : Addr} {fd : FuncData} (F : Fun K "_law_draw" "_law_draw" sDraw f fd) (T : TxtD mg) : FnOk P w K mg base CX0 1 f fd ["_law_deck_here", "_law_many"] spDraw := by
  refine F.ok scDraw (fun vs H Q E h => ?_) (fun cdv A outer s H vs Q E hr h => ?_)
  · obtain ⟨dk, dl, b, t, rfl, _⟩ := h
    rfl
  · obtain ⟨dk, dl, b, t, rfl, ⟨⟨m, hd, m0, m1⟩, ⟨cs, hl, hcs⟩⟩, b1, b2, t0, t1, k⟩ := h
    have hu := hu_of hr
    have ne : dk ≠ dl := ne_of hd hl (by intro z; cases z)
    have em : ∀ (i j : Int), 0 < j → 0 ≤ i % j ∧ i % j < j := fun i j h => ⟨Int.emod_nonneg i (Int.ne_of_gt h), Int.emod_lt_of_pos i h⟩
    -- the last three statements
    have tail : ∃ tl, PSs (cxOf CX0 P w K mg base ["_law_deck_here", "_law_many", "_law_at", "_law_made", "_law_cell"] "_law_draw" (defScope sDraw) f cdv A outer s H E).nox ((defBody sDraw).drop 3) tl ∧
        ∀ (c : Int) (v : Option V) (H2 : Hp), DeckAt H2 dk dl (t + 1) → Keep dk dl H H2 → tl { nx := fun _ H' => Q .non H', rt := Q } [some (.ref dk), some (.int b), some (.int (t + 1)), some (.int c), v] H2 := by
      refine ⟨_, pss_cons (ps_set (i := 3) scDraw.nd rfl (.inl rfl) (pe_op op_mod (pe_op op_mul (pe_op op_mod (pe_callTy call_int1 (by rfl) T.int (by decide +kernel) (pa_cons (pe_op op_add (pe_op op_add (pv 3) (pe_op op_mul (pe_op op_mul pe_int (pv 2)) (pv 2))) pe_int) pa_nil)) pe_int) pe_int) pe_int))
        (pss_cons (ps_set (i := 3) scDraw.nd rfl (.inl rfl) (pe_op op_mod (pe_callTy call_int1 (by rfl) T.int (by decide +kernel) (pa_cons (pe_op op_add (pe_op op_add (pe_op op_mul (pv 3) (pv 3)) (pe_op op_mul pe_int (pv 2))) pe_int) pa_nil)) pe_int))
        (pss_one (ps_ret (pe_op op_mod (pe_op op_fdiv (pe_op op_mod (pe_callTy call_int1 (by rfl) T.int (by decide +kernel) (pa_cons (pe_op op_mul (pv 3) pe_int) pa_nil)) pe_int) pe_int) (pv 1))))), ?_⟩
      intro c v H2 hD hK
      have u1 : CMul 60169 (t + 1) := .inl ⟨by decide, by decide⟩
      refine ⟨_, rfl, _, rfl, _, _, rfl, rfl, u1, _, rfl, _, _, rfl, rfl, .inr ⟨by omega, by omega⟩, _, _, rfl, rfl, _, _, rfl, rfl, .inl ⟨_, rfl, _, _, rfl, rfl, (by decide : (0 : Int) < 2147483629), _, _, rfl, rfl, .inr ⟨by decide, by decide⟩, _, _, rfl, rfl, (by decide : (0 : Int) < 2147483647), ?_⟩⟩
      have b3 := em ((c + 60169 * (t + 1) * (t + 1) + 45) % 2147483629 * 40692) 2147483647 (by decide)
      refine ⟨_, rfl, _, rfl, _, _, rfl, rfl, .inl ⟨Int.lt_of_lt_of_le (by decide) b3.1, Int.lt_trans b3.2 (by decide)⟩, _, rfl, _, _, rfl, rfl, .inl ⟨by decide, by decide⟩, _, _, rfl, rfl, _, _, rfl, rfl, .inl ⟨_, rfl, _, _, rfl, rfl, (by decide : (0 : Int) < 2147483587), ?_⟩⟩
      refine ⟨_, rfl, _, _, rfl, rfl, .inr ⟨by decide, by decide⟩, .inl ⟨_, rfl, _, _, rfl, rfl, (by decide : (0 : Int) < 2147483563), _, _, rfl, rfl, ⟨by decide, by decide⟩, _, rfl, _, _, rfl, rfl, (by omega : (0 : Int) < b), ?_⟩⟩
      exact k _ _ (em _ b (by omega)).1 (em _ b (by omega)).2 hD hK
    obtain ⟨tl, htl, ptl⟩ := tail
    refine ⟨_, pss_cons (ps_dput hu (pv 0) pe_str (pe_op op_add (pe_dget hu (pv 0) pe_str (fun _ _ => rfl)) pe_int) rfl)
      (pss_cons (ps_par (i := 2) (j := 3) rfl scDraw.nd rfl rfl (by decide) rfl rfl (pa_cons (pe_dget hu (pv 0) pe_str (fun _ _ => rfl)) (pa_cons (pe_dget hu (pv 0) pe_str (fun _ _ => rfl)) pa_nil)) (by rfl))
      (pss_cons (ps_if (pt_cmpR (op_neD hr.units) (pe_dget hu (pv 0) pe_str (fun _ _ => rfl)) (pe_lst pa_nil) (nomark _))
        (pss_cons (ps_set (i := 4) scDraw.nd rfl (.inl rfl) (pe_bm0 PySem.F.plainAttrs_list PySem.F.slot_list_pop PySem.F.type_list_pop mt_pop (pe_dget hu (pv 0) pe_str (fun _ _ => rfl))))
        (pss_cons (ps_if (pt_cmpR op_ge (pv 4) (pe_op op_pow pe_int pe_int) (nomark _))
          (pss_cons (ps_expr (pe_bm PySem.F.plainAttrs_list PySem.F.slot_list_append PySem.F.type_list_append mt_append (pe_dget hu (pv 0) pe_str (fun _ _ => rfl)) (pa_cons (pe_op op_fdiv (pv 4) (pv 1)) pa_nil)))
          (pss_one (ps_ret (pe_op op_mod (pe_callTy call_int1 (by rfl) T.int (by decide +kernel) (pa_cons (pv 4) pa_nil)) (pv 1))))) pss_nil)
        (pss_one (ps_set (i := 3) scDraw.nd rfl (.inl rfl) (pe_op op_add (pv 3) (pe_op op_mod (pe_callTy call_int1 (by rfl) T.int (by decide +kernel) (pa_cons (pv 4) pa_nil)) pe_int)))))) pss_nil)
      htl)), ?_⟩
    refine ⟨_, rfl, dk, _, rfl, gD hd, _, _, rfl, rfl, _, rfl, dk, _, rfl, ppD hd, ?_⟩
    have hd1 : upd H dk (.dK (deckD dl m (t + 1))) dk = some (.dK (deckD dl m (t + 1))) := upd_same
    have hl1 : upd H dk (.dK (deckD dl m (t + 1))) dl = some (.lst (cs.map V.int)) := (upd_ne ne.symm).trans hl
    have k1 : Keep dk dl H (upd H dk (.dK (deckD dl m (t + 1)))) := fun c o h1 _ e => (upd_ne h1).trans e
    generalize upd H dk (.dK (deckD dl m (t + 1))) = H1 at hd1 hl1 k1
    refine ⟨_, rfl, dk, _, rfl, gD hd1, _, rfl, dk, _, rfl, gM hd1, _, _, rfl, ?_⟩
    refine ⟨_, rfl, dk, _, rfl, gC hd1, (by show 0 ≤ sizeLine; exact Nat.zero_le _), fun p hp => ?_⟩
    have np : ∀ {b : Addr} {o : HO}, H1 b = some o → b ≠ p := fun e => ne_of_none e hp
    have kp : Keep dk dl H (upd H1 p (.lst [])) := fun c o h1 h2 e => (upd_ne (np (k1 c o h1 h2 e))).trans (k1 c o h1 h2 e)
    have hd2 : upd H1 p (.lst []) dk = _ := (upd_ne (np hd1)).trans hd1
    have hl2 : upd H1 p (.lst []) dl = _ := (upd_ne (np hl1)).trans hl1
    have hp2 : upd H1 p (.lst []) p = some (.lst []) := upd_same
    generalize upd H1 p (.lst []) = H2 at kp hd2 hl2 hp2
    refine ⟨_, _, .lst (.inl (.inl hl2)) (ints_dp cs), .lst (.inl (.inl hp2)) .nil, ints_shaped cs, rfl, _, rfl, ?_⟩
    cases cs with
    | nil =>
      refine iteF ?_
      exact ptl m none H2 ⟨⟨m, hd2, m0, m1⟩, ⟨[], hl2, Nat.zero_le _⟩⟩ kp
    | cons c0 cr =>
      refine iteT ?_
      obtain ⟨z, hz⟩ : ∃ z, ((c0 :: cr).map V.int)[((c0 :: cr).map V.int).length - 1]? = some (V.int z) := by
        refine ⟨(c0 :: cr).getLast (List.cons_ne_nil _ _), ?_⟩
        rw [List.length_map, List.getElem?_map, ← List.getLast?_eq_getElem?]
        rfl
      have hdrop : ((c0 :: cr).map V.int).dropLast = (c0 :: cr).dropLast.map V.int := (List.map_dropLast).symm
      have hlen : (c0 :: cr).dropLast.length ≤ 62 := by
        rw [List.length_dropLast]
        omega
      refine ⟨_, rfl, dk, _, rfl, gC hd2, .inl ⟨rfl, _, .inl (.inl hl2)⟩, dl, _, _, rfl, rfl, hl2, hz, ?_⟩
      rw [hdrop]
      have hd3 : upd H2 dl (.lst ((c0 :: cr).dropLast.map V.int)) dk = _ := (upd_ne ne).trans hd2
      have hl3 : upd H2 dl (.lst ((c0 :: cr).dropLast.map V.int)) dl = _ := upd_same
      have k3 : Keep dk dl H (upd H2 dl (.lst ((c0 :: cr).dropLast.map V.int))) := fun c o h1 h2 e => (upd_ne h2).trans (kp c o h1 h2 e)
      generalize (c0 :: cr).dropLast = dr at hd3 hl3 k3 hlen
      generalize upd H2 dl (.lst (dr.map V.int)) = H3 at hd3 hl3 k3
      refine ⟨_, rfl, _, _, rfl, rfl, ⟨by decide, by decide, by decide⟩, _, _, rfl, rfl, _, rfl, ?_⟩
      refine ite2 (fun _ => ?_) (fun _ => ?_)
      · refine ⟨_, rfl, dk, _, rfl, gC hd3, .inl ⟨rfl, _, .inl (.inl hl3)⟩, _, rfl, _, rfl, _, _, rfl, rfl, ⟨by omega, by omega⟩, dl, _, _, rfl, rfl, hl3, ?_, ?_⟩
        · show (dr.map V.int).length < sizeLine
          rw [List.length_map, sizeLine_eq]
          omega
        · refine ⟨_, rfl, .inl ⟨_, rfl, _, rfl, _, _, rfl, rfl, (by omega : (0 : Int) < b), ?_⟩⟩
          refine k _ _ (em z b (by omega)).1 (em z b (by omega)).2 ⟨⟨m, (upd_ne ne).trans hd3, m0, m1⟩, ⟨dr ++ [z / b], ?_, ?_⟩⟩ fun c o h1 h2 e => (upd_ne h2).trans (k3 c o h1 h2 e)
          · rw [upd_same, List.map_append]
            rfl
          · rw [List.length_append]
            show dr.length + 1 ≤ 63
            omega
      · refine ⟨_, rfl, _, rfl, .inl ⟨_, rfl, _, _, rfl, rfl, (by decide : (0 : Int) < 2147483629), _, _, rfl, rfl, ?_⟩⟩
        exact ptl _ _ H3 ⟨⟨m, hd3, m0, m1⟩, ⟨dr, hl3, by omega⟩⟩ k3
theorem scDeck : FnScope ["_law_script", "_law_cells", "_law_mixed", "_law_cell"] ["_law_script"] (defScope sDeck) := ⟨rfl, rfl, rfl, by decide +kernel, rfl, by decide +kernel, by decide +kernel⟩
theorem ok_deck {f : Addr} {fd : FuncData} (F : Fun K "_law_deck" "_law_deck" sDeck f fd) (T : TxtD mg) : FnOk P w K mg base CX0 1 f fd ["_law_script"] (spDeck K) := by
  refine F.ok scDeck (fun vs H Q E h => ?_) (fun cdv A outer s H vs Q E hr h => ?_)
  · obtain ⟨a, ns, rfl, _⟩ := h
    rfl
  · obtain ⟨a, ns, rfl, hS, hlen, k⟩ := h
    have em : ∀ (i j : Int), 0 < j → 0 ≤ i % j ∧ i % j < j := fun i j h => ⟨Int.emod_nonneg i (Int.ne_of_gt h), Int.emod_lt_of_pos i h⟩
    refine ⟨_, pss_cons (ps_par (i := 1) (j := 2) rfl scDeck.nd rfl rfl (by decide) rfl rfl (pa_cons (pe_callTy call_list_of (by rfl) T.lst (by decide +kernel) (pa_cons (pe_slice sl_list (pv 0) po_none (po_some pe_int)) pa_nil)) (pa_cons pe_int pa_nil)) (by rfl))
      (pss_cons (ps_for PassesOwn.never rfl (pi_list (pv 1)) (pg_name (i := 3) scDeck.nd rfl (.inl rfl))
        (pss_one (ps_set (i := 2) scDeck.nd rfl (.inl rfl) (pe_op op_mod (pe_callTy call_int1 (by rfl) T.int (by decide +kernel) (pa_cons (pe_op op_add (pe_op op_add (pe_op op_mul (pv 2) pe_int) (pe_op op_mod (pe_callTy call_int1 (by rfl) T.int (by decide +kernel) (pa_cons (pv 3) pa_nil)) pe_int)) pe_int) pa_nil)) pe_int))))
      (pss_one (ps_ret (pe_disp (pps_cons pe_str (pe_revL (pv 1)) (pps_cons pe_str (pv 2) (pps_cons pe_str pe_int pps_nil))) (by rfl) (by rfl) (fun z => by cases z) (by decide))))), ?_⟩
    refine ⟨_, rfl, _, rfl, a, _, rfl, hS, fun p hp => ⟨p, _, rfl, .inl (SqL.of upd_same), fun l hl => ?_⟩⟩
    obtain ⟨cs, ecs, hcs⟩ : ∃ cs : List Int, cutV (ns.map V.int) none (some 63) = cs.map V.int ∧ cs.length ≤ 63 := by
      refine ⟨(ns.drop (HT.sIx (ns.map V.int).length 0 none)).take (HT.sIx (ns.map V.int).length (ns.map V.int).length (some 63) - HT.sIx (ns.map V.int).length 0 none), ?_, ?_⟩
      · unfold cutV
        rw [List.map_take, List.map_drop]
      · rw [List.length_take, List.length_drop]
        omega
    rw [ecs]
    have s1 : Same H (upd H p (.lst (cs.map V.int))) := same_new (fun _ _ e => e) hp
    have s2 : Same H (upd (upd H p (.lst (cs.map V.int))) l (.lst (cs.map V.int))) := same_new s1 (by rw [← ecs]; exact hl)
    have hl2 : upd (upd H p (.lst (cs.map V.int))) l (.lst (cs.map V.int)) l = some (.lst (cs.map V.int)) := upd_same
    generalize upd (upd H p (.lst (cs.map V.int))) l (.lst (cs.map V.int)) = H1 at s2 hl2
    refine ⟨_, _, rfl, ?_⟩
    refine ⟨_, rfl, l, rfl, ⟨_, .inl (.inl hl2)⟩, for_list (K := K) (a := l) (xs := cs.map V.int) (fun i σ H2 => ∃ (m : Int) (v : Option V), σ = [some (.ref a), some (.ref l), some (.int m), v] ∧ H2 = H1 ∧ 0 ≤ m ∧ m < 2147483587)
      ⟨1085715, none, rfl, rfl, by decide, by decide⟩ (fun i σ H2 _ ⟨_, _, _, e, _⟩ => by rw [e]; exact .inl (.inl hl2)) ?_ ?_⟩
    · rintro i y σ H2 hi ⟨m, v, rfl, rfl, m0, m1⟩
      obtain ⟨z, rfl⟩ : ∃ z, y = V.int z := by
        rw [List.getElem?_map] at hi
        cases e : cs[i]? with
        | none =>
          rw [e] at hi
          cases hi
        | some z =>
          rw [e] at hi
          exact ⟨z, (Option.some.inj hi).symm⟩
      refine ⟨_, rfl, _, _, rfl, rfl, .inr ⟨by decide, by decide⟩, _, rfl, .inl ⟨_, rfl, _, _, rfl, rfl, (by decide : (0 : Int) < 2147483629), _, _, rfl, rfl, _, _, rfl, rfl, .inl ⟨_, rfl, _, _, rfl, rfl, (by decide : (0 : Int) < 2147483587), ?_⟩⟩⟩
      exact ⟨_, _, rfl, rfl, (em _ _ (by decide)).1, (em _ _ (by decide)).2⟩
    · rintro σ H2 ⟨m, v, rfl, rfl, m0, m1⟩
      intro d hd
      have nl : l ≠ d := ne_of_none hl2 hd
      refine ⟨_, rfl, l, _, rfl, .inl (.inl ((upd_ne nl).trans hl2)), fun q hq => ⟨_, rfl, ?_⟩⟩
      have nq : d ≠ q := ne_of_none upd_same hq
      refine ⟨(upd_ne nq).trans upd_same, deckD q m 0, rfl, (by show 3 ≤ 15; decide), ?_⟩
      have fr : ∀ {c : Addr}, H2 c = none → H c = none := fun {c} e => by
        cases z : H c with
        | none => rfl
        | some o =>
          rw [s2 c o z] at e
          cases e
      have hq0 : H2 q = none := (upd_ne nq.symm).symm.trans hq
      rw [merged]
      refine k d q _ (fun b o e => ?_) (fr hd) (fr hq0) ⟨⟨m, upd_same, m0, m1⟩, ⟨cs.reverse, ?_, ?_⟩⟩
      · rw [upd_ne (ne_of_none (s2 b o e) hd), upd_ne (ne_of_none (s2 b o e) hq0), upd_ne (ne_of_none (s2 b o e) hd)]
        exact s2 b o e
      · rw [upd_ne nq.symm, upd_same, List.map_reverse]
      · rw [List.length_reverse]
        exact hcs
theorem scPick : FnScope ["_law_deck_here", "_law_some"] ["_law_deck_here", "_law_some"] (defScope sPick) := ⟨rfl, rfl, rfl, by decide +kernel, rfl, by decide +kernel, by decide +kernel⟩
theorem ok_pick {f fD : Addr} {fd fdD : FuncData} (F : Fun K "_law_pick" "_law_pick" sPick f fd) (GD : FnOk P w K mg base CX0 1 fD fdD ["_law_deck_here", "_law_many"] spDraw) (bD : Binds K fdD ["_law_deck_here", "_law_many"] []) (T : TxtP K mg fD f) :
    FnOk P w K mg base CX0 2 f fd ["_law_deck_here", "_law_some"] spPick := by
  refine F.ok scPick (fun vs H Q E h => ?_) (fun cdv A outer s H vs Q E hr h => ?_)
  · obtain ⟨dk, dl, p, t, xs, rfl, _⟩ := h
    rfl
  · obtain ⟨dk, dl, p, t, xs, rfl, hD, hpl, hp, hne, hx, t0, t1, k⟩ := h
    have hu := hu_of hr
    refine ⟨_, pss_one (ps_ret (pe_ix ix_list (pv 1) (pe_call GD hr rfl T.gD T.kD bD .nil pass0 (pa_cons (pv 0) (pa_cons (pe_callB call_len_seq (by rfl) T.len PySem.boot_len (pa_cons (pv 1) pa_nil)) pa_nil))) (fun _ _ => rfl))), ?_⟩
    have pos : 0 < xs.length := by
      cases xs with
      | nil => exact absurd rfl hne
      | cons _ _ => exact Nat.succ_pos _
    refine ⟨_, rfl, _, rfl, _, rfl, p, _, rfl, .inl (SqL.of hp), ?_⟩
    refine ⟨dk, dl, (xs.length : Int), t, rfl, hD, by omega, by omega, t0, t1, fun r H' r0 r1 D' K' => ?_⟩
    have np : p ≠ dk := by
      obtain ⟨⟨m, h1, _⟩, _⟩ := hD
      exact ne_of hp h1 (by intro z; cases z)
    obtain ⟨y, hy, ha⟩ := Mine.pick r0 r1
    exact ⟨p, _, _, _, rfl, rfl, SqL.of (K' _ _ np hpl hp), ha, k y H' hy D' K'⟩
theorem ok_pickT {f fD : Addr} {fd fdD : FuncData} (F : Fun K "_law_pick" "_law_pick" sPick f fd) (GD : FnOk P w K mg base CX0 1 fD fdD ["_law_deck_here", "_law_many"] spDraw) (bD : Binds K fdD ["_law_deck_here", "_law_many"] []) (T : TxtP K mg fD f) :
    FnOk P w K mg base CX0 2 f fd ["_law_deck_here", "_law_some"] (spPickT K) := by
  refine F.ok scPick (fun vs H Q E h => ?_) (fun cdv A outer s H vs Q E hr h => ?_)
  · obtain ⟨dk, dl, p, t, xs, rfl, _⟩ := h
    rfl
  · obtain ⟨dk, dl, p, t, xs, rfl, hD, hp, hne, hx, t0, t1, k⟩ := h
    have hu := hu_of hr
    refine ⟨_, pss_one (ps_ret (pe_ix ix_tup (pv 1) (pe_call GD hr rfl T.gD T.kD bD .nil pass0 (pa_cons (pv 0) (pa_cons (pe_callB call_len_seq (by rfl) T.len PySem.boot_len (pa_cons (pv 1) pa_nil)) pa_nil))) (fun _ _ => rfl))), ?_⟩
    have pos : 0 < xs.length := by
      cases xs with
      | nil => exact absurd rfl hne
      | cons _ _ => exact Nat.succ_pos _
    refine ⟨_, rfl, _, rfl, _, rfl, p, _, rfl, .inr hp, ?_⟩
    refine ⟨dk, dl, (xs.length : Int), t, rfl, hD, by omega, by omega, t0, t1, fun r H' r0 r1 D' K' => ?_⟩
    obtain ⟨y, hy, ha⟩ := Mine.pick r0 r1
    exact ⟨p, _, _, _, rfl, rfl, K'.kt hD p xs hp, ha, k y H' hy D' K'⟩
theorem scTold : FnScope ["_law_sorts", "_law_ways"] [] (defScope sTold) := ⟨rfl, rfl, rfl, by decide +kernel, rfl, by decide +kernel, by decide +kernel⟩
theorem ok_told {f : Addr} {fd : FuncData} (F : Fun K "_law_told_book" "_law_told_book" sTold f fd) (T : TxtTB mg) : FnOk P w K mg base CX0 1 f fd [] (spTold K) := by
  refine F.ok scTold (fun vs H Q E h => ?_) (fun cdv A outer s H vs Q E hr h => ?_)
  · obtain ⟨rfl, _⟩ := h
    rfl
  · obtain ⟨rfl, k⟩ := h
    refine ⟨_, pss_cons (ps_set (i := 0) scTold.nd rfl (.inl rfl) (pe_tupF (pa_cons (pe_tup (pa_cons pe_str (pa_cons pe_int pa_nil))) (pa_cons (pe_tup (pa_cons pe_str (pa_cons pe_int pa_nil))) (pa_cons (pe_tup (pa_cons pe_str (pa_cons pe_int pa_nil))) (pa_cons (pe_tup (pa_cons pe_str (pa_cons pe_int pa_nil))) (pa_cons (pe_tup (pa_cons pe_str (pa_cons pe_int pa_nil))) (pa_cons (pe_tup (pa_cons pe_str (pa_cons pe_int pa_nil))) pa_nil))))))))
      (pss_cons (ps_set (i := 1) scTold.nd rfl (.inl rfl) (pe_lst (pa_cons (pe_tup (pa_cons pe_str (pa_cons pe_str (pa_cons pe_int (pa_cons (pe_tup pa_nil) pa_nil))))) (pa_cons (pe_tup (pa_cons pe_str (pa_cons pe_str (pa_cons pe_int (pa_cons (pe_tup (pa_cons (pe_tup (pa_cons pe_str (pa_cons pe_int pa_nil))) pa_nil)) pa_nil))))) (pa_cons (pe_tup (pa_cons pe_str (pa_cons pe_str (pa_cons pe_int (pa_cons (pe_tup pa_nil) pa_nil))))) pa_nil)))))
      (pss_cons (ps_set (i := 1) scTold.nd rfl (.inl rfl) (pe_op op_cat (pv 1) (pe_lst (pa_cons (pe_tup (pa_cons pe_str (pa_cons pe_str (pa_cons pe_int (pa_cons (pe_tup pa_nil) pa_nil))))) (pa_cons (pe_tup (pa_cons pe_str (pa_cons pe_str (pa_cons pe_int (pa_cons (pe_tup (pa_cons (pe_tup (pa_cons pe_str (pa_cons pe_str (pa_cons pe_int pa_nil)))) pa_nil)) pa_nil))))) pa_nil)))))
      (pss_one (ps_ret (pe_disp (pps_cons pe_str (pv 0) (pps_cons pe_str (pe_callTy call_tuple_of (by rfl) T.tuple (by decide +kernel) (pa_cons (pe_op op_cat (pv 1) (pe_lst (pa_cons (pe_tup (pa_cons pe_str (pa_cons pe_str (pa_cons pe_int (pa_cons (pe_tup (pa_cons (pe_tup (pa_cons pe_str (pa_cons pe_int (pa_cons pe_str pa_nil)))) pa_nil)) pa_nil))))) pa_nil))) pa_nil)) pps_nil)) (by rfl) (by rfl) (fun z => by cases z) (by decide)))))), ?_⟩
    have line : sizeLine = 16777216 := sizeLine_eq
    refine ⟨(by show 2 ≤ sizeLine; omega), fun k0 hk0 => ?_⟩
    have fk0 : Same H (upd H k0 (.tup [.str (PySem.Str.ofString "half"), .int 1])) := same_new same_rfl hk0
    have ek0 : upd H k0 (.tup [.str (PySem.Str.ofString "half"), .int 1]) k0 = some (.tup [.str (PySem.Str.ofString "half"), .int 1]) := upd_same
    generalize upd H k0 (.tup [.str (PySem.Str.ofString "half"), .int 1]) = H1 at fk0 ek0 ⊢
    refine ⟨(by show 2 ≤ sizeLine; omega), fun k1 hk1 => ?_⟩
    have fk1 : Same H1 (upd H1 k1 (.tup [.str (PySem.Str.ofString "lock"), .int 2])) := same_new same_rfl hk1
    have ek1 : upd H1 k1 (.tup [.str (PySem.Str.ofString "lock"), .int 2]) k1 = some (.tup [.str (PySem.Str.ofString "lock"), .int 2]) := upd_same
    generalize upd H1 k1 (.tup [.str (PySem.Str.ofString "lock"), .int 2]) = H2 at fk1 ek1 ⊢
    refine ⟨(by show 2 ≤ sizeLine; omega), fun k2 hk2 => ?_⟩
    have fk2 : Same H2 (upd H2 k2 (.tup [.str (PySem.Str.ofString "mark"), .int 1])) := same_new same_rfl hk2
    have ek2 : upd H2 k2 (.tup [.str (PySem.Str.ofString "mark"), .int 1]) k2 = some (.tup [.str (PySem.Str.ofString "mark"), .int 1]) := upd_same
    generalize upd H2 k2 (.tup [.str (PySem.Str.ofString "mark"), .int 1]) = H3 at fk2 ek2 ⊢
    refine ⟨(by show 2 ≤ sizeLine; omega), fun k3 hk3 => ?_⟩
    have fk3 : Same H3 (upd H3 k3 (.tup [.str (PySem.Str.ofString "pair"), .int 2])) := same_new same_rfl hk3
    have ek3 : upd H3 k3 (.tup [.str (PySem.Str.ofString "pair"), .int 2]) k3 = some (.tup [.str (PySem.Str.ofString "pair"), .int 2]) := upd_same
    generalize upd H3 k3 (.tup [.str (PySem.Str.ofString "pair"), .int 2]) = H4 at fk3 ek3 ⊢
    refine ⟨(by show 2 ≤ sizeLine; omega), fun k4 hk4 => ?_⟩
    have fk4 : Same H4 (upd H4 k4 (.tup [.str (PySem.Str.ofString "seal"), .int 2])) := same_new same_rfl hk4
    have ek4 : upd H4 k4 (.tup [.str (PySem.Str.ofString "seal"), .int 2]) k4 = some (.tup [.str (PySem.Str.ofString "seal"), .int 2]) := upd_same
    generalize upd H4 k4 (.tup [.str (PySem.Str.ofString "seal"), .int 2]) = H5 at fk4 ek4 ⊢
    refine ⟨(by show 2 ≤ sizeLine; omega), fun k5 hk5 => ?_⟩
    have fk5 : Same H5 (upd H5 k5 (.tup [.str (PySem.Str.ofString "sign"), .int 2])) := same_new same_rfl hk5
    have ek5 : upd H5 k5 (.tup [.str (PySem.Str.ofString "sign"), .int 2]) k5 = some (.tup [.str (PySem.Str.ofString "sign"), .int 2]) := upd_same
    generalize upd H5 k5 (.tup [.str (PySem.Str.ofString "sign"), .int 2]) = H6 at fk5 ek5 ⊢
    refine ⟨(by show 6 ≤ sizeLine; omega), fun m obm hm dm => ?_⟩
    have fm : Same H6 (upd H6 m (.frz obm (.tup [.ref k0, .ref k1, .ref k2, .ref k3, .ref k4, .ref k5]))) := same_new same_rfl hm
    have em : upd H6 m (.frz obm (.tup [.ref k0, .ref k1, .ref k2, .ref k3, .ref k4, .ref k5])) m = some (.frz obm (.tup [.ref k0, .ref k1, .ref k2, .ref k3, .ref k4, .ref k5])) := upd_same
    show Ends.nx _ _ (upd H6 m (.frz obm (.tup [.ref k0, .ref k1, .ref k2, .ref k3, .ref k4, .ref k5])))
    generalize upd H6 m (.frz obm (.tup [.ref k0, .ref k1, .ref k2, .ref k3, .ref k4, .ref k5])) = H7 at fm em ⊢
    refine ⟨Nat.zero_le _, fun u0 hu0 => ?_⟩
    have fu0 : Same H7 (upd H7 u0 (.tup [])) := same_new same_rfl hu0
    have eu0 : upd H7 u0 (.tup []) u0 = some (.tup []) := upd_same
    generalize upd H7 u0 (.tup []) = H8 at fu0 eu0 ⊢
    refine ⟨(by show 4 ≤ sizeLine; omega), fun o0 ho0 => ?_⟩
    have fo0 : Same H8 (upd H8 o0 (.tup [.str (PySem.Str.ofString "first"), .str (PySem.Str.ofString "pair"), .int 0, .ref u0])) := same_new same_rfl ho0
    have eo0 : upd H8 o0 (.tup [.str (PySem.Str.ofString "first"), .str (PySem.Str.ofString "pair"), .int 0, .ref u0]) o0 = some (.tup [.str (PySem.Str.ofString "first"), .str (PySem.Str.ofString "pair"), .int 0, .ref u0]) := upd_same
    generalize upd H8 o0 (.tup [.str (PySem.Str.ofString "first"), .str (PySem.Str.ofString "pair"), .int 0, .ref u0]) = H9 at fo0 eo0 ⊢
    refine ⟨(by show 2 ≤ sizeLine; omega), fun n1 hn1 => ?_⟩
    have fn1 : Same H9 (upd H9 n1 (.tup [.str (PySem.Str.ofString "part"), .int 1])) := same_new same_rfl hn1
    have en1 : upd H9 n1 (.tup [.str (PySem.Str.ofString "part"), .int 1]) n1 = some (.tup [.str (PySem.Str.ofString "part"), .int 1]) := upd_same
    generalize upd H9 n1 (.tup [.str (PySem.Str.ofString "part"), .int 1]) = H10 at fn1 en1 ⊢
    refine ⟨(by show 1 ≤ sizeLine; omega), fun u1 hu1 => ?_⟩
    have fu1 : Same H10 (upd H10 u1 (.tup [.ref n1])) := same_new same_rfl hu1
    have eu1 : upd H10 u1 (.tup [.ref n1]) u1 = some (.tup [.ref n1]) := upd_same
    generalize upd H10 u1 (.tup [.ref n1]) = H11 at fu1 eu1 ⊢
    refine ⟨(by show 4 ≤ sizeLine; omega), fun o1 ho1 => ?_⟩
    have fo1 : Same H11 (upd H11 o1 (.tup [.str (PySem.Str.ofString "open"), .str (PySem.Str.ofString "lock"), .int 0, .ref u1])) := same_new same_rfl ho1
    have eo1 : upd H11 o1 (.tup [.str (PySem.Str.ofString "open"), .str (PySem.Str.ofString "lock"), .int 0, .ref u1]) o1 = some (.tup [.str (PySem.Str.ofString "open"), .str (PySem.Str.ofString "lock"), .int 0, .ref u1]) := upd_same
    generalize upd H11 o1 (.tup [.str (PySem.Str.ofString "open"), .str (PySem.Str.ofString "lock"), .int 0, .ref u1]) = H12 at fo1 eo1 ⊢
    refine ⟨Nat.zero_le _, fun u2 hu2 => ?_⟩
    have fu2 : Same H12 (upd H12 u2 (.tup [])) := same_new same_rfl hu2
    have eu2 : upd H12 u2 (.tup []) u2 = some (.tup []) := upd_same
    generalize upd H12 u2 (.tup []) = H13 at fu2 eu2 ⊢
    refine ⟨(by show 4 ≤ sizeLine; omega), fun o2 ho2 => ?_⟩
    have fo2 : Same H13 (upd H13 o2 (.tup [.str (PySem.Str.ofString "second"), .str (PySem.Str.ofString "pair"), .int 1, .ref u2])) := same_new same_rfl ho2
    have eo2 : upd H13 o2 (.tup [.str (PySem.Str.ofString "second"), .str (PySem.Str.ofString "pair"), .int 1, .ref u2]) o2 = some (.tup [.str (PySem.Str.ofString "second"), .str (PySem.Str.ofString "pair"), .int 1, .ref u2]) := upd_same
    generalize upd H13 o2 (.tup [.str (PySem.Str.ofString "second"), .str (PySem.Str.ofString "pair"), .int 1, .ref u2]) = H14 at fo2 eo2 ⊢
    refine ⟨(by show 3 ≤ sizeLine; omega), fun t1 ht1 => ?_⟩
    have ft1 : Same H14 (upd H14 t1 (.lst [.ref o0, .ref o1, .ref o2])) := same_new same_rfl ht1
    have et1 : upd H14 t1 (.lst [.ref o0, .ref o1, .ref o2]) t1 = some (.lst [.ref o0, .ref o1, .ref o2]) := upd_same
    show Ends.nx _ _ (upd H14 t1 (.lst [.ref o0, .ref o1, .ref o2]))
    generalize upd H14 t1 (.lst [.ref o0, .ref o1, .ref o2]) = H15 at ft1 et1 ⊢
    refine ⟨_, rfl, Nat.zero_le _, fun u3 hu3 => ?_⟩
    have fu3 : Same H15 (upd H15 u3 (.tup [])) := same_new same_rfl hu3
    have eu3 : upd H15 u3 (.tup []) u3 = some (.tup []) := upd_same
    generalize upd H15 u3 (.tup []) = H16 at fu3 eu3 ⊢
    refine ⟨(by show 4 ≤ sizeLine; omega), fun o3 ho3 => ?_⟩
    have fo3 : Same H16 (upd H16 o3 (.tup [.str (PySem.Str.ofString "shown"), .str (PySem.Str.ofString "sign"), .int 0, .ref u3])) := same_new same_rfl ho3
    have eo3 : upd H16 o3 (.tup [.str (PySem.Str.ofString "shown"), .str (PySem.Str.ofString "sign"), .int 0, .ref u3]) o3 = some (.tup [.str (PySem.Str.ofString "shown"), .str (PySem.Str.ofString "sign"), .int 0, .ref u3]) := upd_same
    generalize upd H16 o3 (.tup [.str (PySem.Str.ofString "shown"), .str (PySem.Str.ofString "sign"), .int 0, .ref u3]) = H17 at fo3 eo3 ⊢
    refine ⟨(by show 3 ≤ sizeLine; omega), fun n4 hn4 => ?_⟩
    have fn4 : Same H17 (upd H17 n4 (.tup [.str (PySem.Str.ofString "around"), .str (PySem.Str.ofString "half"), .int 1])) := same_new same_rfl hn4
    have en4 : upd H17 n4 (.tup [.str (PySem.Str.ofString "around"), .str (PySem.Str.ofString "half"), .int 1]) n4 = some (.tup [.str (PySem.Str.ofString "around"), .str (PySem.Str.ofString "half"), .int 1]) := upd_same
    generalize upd H17 n4 (.tup [.str (PySem.Str.ofString "around"), .str (PySem.Str.ofString "half"), .int 1]) = H18 at fn4 en4 ⊢
    refine ⟨(by show 1 ≤ sizeLine; omega), fun u4 hu4 => ?_⟩
    have fu4 : Same H18 (upd H18 u4 (.tup [.ref n4])) := same_new same_rfl hu4
    have eu4 : upd H18 u4 (.tup [.ref n4]) u4 = some (.tup [.ref n4]) := upd_same
    generalize upd H18 u4 (.tup [.ref n4]) = H19 at fu4 eu4 ⊢
    refine ⟨(by show 4 ≤ sizeLine; omega), fun o4 ho4 => ?_⟩
    have fo4 : Same H19 (upd H19 o4 (.tup [.str (PySem.Str.ofString "signed"), .str (PySem.Str.ofString "sign"), .int 0, .ref u4])) := same_new same_rfl ho4
    have eo4 : upd H19 o4 (.tup [.str (PySem.Str.ofString "signed"), .str (PySem.Str.ofString "sign"), .int 0, .ref u4]) o4 = some (.tup [.str (PySem.Str.ofString "signed"), .str (PySem.Str.ofString "sign"), .int 0, .ref u4]) := upd_same
    generalize upd H19 o4 (.tup [.str (PySem.Str.ofString "signed"), .str (PySem.Str.ofString "sign"), .int 0, .ref u4]) = H20 at fo4 eo4 ⊢
    refine ⟨(by show 2 ≤ sizeLine; omega), fun t2 ht2 => ?_⟩
    have ft2 : Same H20 (upd H20 t2 (.lst [.ref o3, .ref o4])) := same_new same_rfl ht2
    have et2 : upd H20 t2 (.lst [.ref o3, .ref o4]) t2 = some (.lst [.ref o3, .ref o4]) := upd_same
    generalize upd H20 t2 (.lst [.ref o3, .ref o4]) = H21 at ft2 et2 ⊢
    refine ⟨t1, t2, [.ref o0, .ref o1, .ref o2], [.ref o3, .ref o4], rfl, rfl, ft2 _ _ (fo4 _ _ (fu4 _ _ (fn4 _ _ (fo3 _ _ (fu3 _ _ (et1)))))), et2, (by show 5 ≤ sizeLine; omega), fun t3 ht3 => ?_⟩
    have ft3 : Same H21 (upd H21 t3 (.lst [.ref o0, .ref o1, .ref o2, .ref o3, .ref o4])) := same_new same_rfl ht3
    have et3 : upd H21 t3 (.lst [.ref o0, .ref o1, .ref o2, .ref o3, .ref o4]) t3 = some (.lst [.ref o0, .ref o1, .ref o2, .ref o3, .ref o4]) := upd_same
    show Ends.nx _ _ (upd H21 t3 (.lst [.ref o0, .ref o1, .ref o2, .ref o3, .ref o4]))
    generalize upd H21 t3 (.lst [.ref o0, .ref o1, .ref o2, .ref o3, .ref o4]) = H22 at ft3 et3 ⊢
    intro w hw
    have fw : Same H22 (upd H22 w (.dK [])) := same_new same_rfl hw
    have ew : upd H22 w (.dK []) w = some (.dK []) := upd_same
    generalize upd H22 w (.dK []) = H23 at fw ew ⊢
    refine ⟨_, rfl, ?_⟩
    refine ⟨_, rfl, (by show 3 ≤ sizeLine; omega), fun n5 hn5 => ?_⟩
    have fn5 : Same H23 (upd H23 n5 (.tup [.str (PySem.Str.ofString "inside"), .int 1, .str (PySem.Str.ofString "half")])) := same_new same_rfl hn5
    have en5 : upd H23 n5 (.tup [.str (PySem.Str.ofString "inside"), .int 1, .str (PySem.Str.ofString "half")]) n5 = some (.tup [.str (PySem.Str.ofString "inside"), .int 1, .str (PySem.Str.ofString "half")]) := upd_same
    generalize upd H23 n5 (.tup [.str (PySem.Str.ofString "inside"), .int 1, .str (PySem.Str.ofString "half")]) = H24 at fn5 en5 ⊢
    refine ⟨(by show 1 ≤ sizeLine; omega), fun u5 hu5 => ?_⟩
    have fu5 : Same H24 (upd H24 u5 (.tup [.ref n5])) := same_new same_rfl hu5
    have eu5 : upd H24 u5 (.tup [.ref n5]) u5 = some (.tup [.ref n5]) := upd_same
    generalize upd H24 u5 (.tup [.ref n5]) = H25 at fu5 eu5 ⊢
    refine ⟨(by show 4 ≤ sizeLine; omega), fun o5 ho5 => ?_⟩
    have fo5 : Same H25 (upd H25 o5 (.tup [.str (PySem.Str.ofString "unseal"), .str (PySem.Str.ofString "seal"), .int 0, .ref u5])) := same_new same_rfl ho5
    have eo5 : upd H25 o5 (.tup [.str (PySem.Str.ofString "unseal"), .str (PySem.Str.ofString "seal"), .int 0, .ref u5]) o5 = some (.tup [.str (PySem.Str.ofString "unseal"), .str (PySem.Str.ofString "seal"), .int 0, .ref u5]) := upd_same
    generalize upd H25 o5 (.tup [.str (PySem.Str.ofString "unseal"), .str (PySem.Str.ofString "seal"), .int 0, .ref u5]) = H26 at fo5 eo5 ⊢
    refine ⟨(by show 1 ≤ sizeLine; omega), fun t4 ht4 => ?_⟩
    have ft4 : Same H26 (upd H26 t4 (.lst [.ref o5])) := same_new same_rfl ht4
    have et4 : upd H26 t4 (.lst [.ref o5]) t4 = some (.lst [.ref o5]) := upd_same
    generalize upd H26 t4 (.lst [.ref o5]) = H27 at ft4 et4 ⊢
    refine ⟨t3, t4, [.ref o0, .ref o1, .ref o2, .ref o3, .ref o4], [.ref o5], rfl, rfl, ft4 _ _ (fo5 _ _ (fu5 _ _ (fn5 _ _ (fw _ _ (et3))))), et4, (by show 6 ≤ sizeLine; omega), fun t5 ht5 => ?_⟩
    have ft5 : Same H27 (upd H27 t5 (.lst [.ref o0, .ref o1, .ref o2, .ref o3, .ref o4, .ref o5])) := same_new same_rfl ht5
    have et5 : upd H27 t5 (.lst [.ref o0, .ref o1, .ref o2, .ref o3, .ref o4, .ref o5]) t5 = some (.lst [.ref o0, .ref o1, .ref o2, .ref o3, .ref o4, .ref o5]) := upd_same
    refine ⟨t5, _, rfl, .inl ⟨SqL.of et5, fun l hl => ?_⟩⟩
    have hl2 : upd H27 t5 (.lst [.ref o0, .ref o1, .ref o2, .ref o3, .ref o4, .ref o5]) l = none := hl
    have fl : Same (upd H27 t5 (.lst [.ref o0, .ref o1, .ref o2, .ref o3, .ref o4, .ref o5])) (upd (upd H27 t5 (.lst [.ref o0, .ref o1, .ref o2, .ref o3, .ref o4, .ref o5])) l (.tup [.ref o0, .ref o1, .ref o2, .ref o3, .ref o4, .ref o5])) := same_new same_rfl hl2
    have el : upd (upd H27 t5 (.lst [.ref o0, .ref o1, .ref o2, .ref o3, .ref o4, .ref o5])) l (.tup [.ref o0, .ref o1, .ref o2, .ref o3, .ref o4, .ref o5]) l = some (.tup [.ref o0, .ref o1, .ref o2, .ref o3, .ref o4, .ref o5]) := upd_same
    have fL : Same H27 (upd (upd H27 t5 (.lst [.ref o0, .ref o1, .ref o2, .ref o3, .ref o4, .ref o5])) l (.tup [.ref o0, .ref o1, .ref o2, .ref o3, .ref o4, .ref o5])) := same_tr ft5 fl
    have ew0 := fL _ _ (ft4 _ _ (fo5 _ _ (fu5 _ _ (fn5 _ _ (ew)))))
    refine ⟨ew0, worldD m l, rfl, (by show 2 ≤ 15; decide), ?_⟩
    rw [wMerged]
    have g0 : Same H (upd (upd H27 t5 (.lst [.ref o0, .ref o1, .ref o2, .ref o3, .ref o4, .ref o5])) l (.tup [.ref o0, .ref o1, .ref o2, .ref o3, .ref o4, .ref o5])) := (same_tr fk0 (same_tr fk1 (same_tr fk2 (same_tr fk3 (same_tr fk4 (same_tr fk5 (same_tr fm (same_tr fu0 (same_tr fo0 (same_tr fn1 (same_tr fu1 (same_tr fo1 (same_tr fu2 (same_tr fo2 (same_tr ft1 (same_tr fu3 (same_tr fo3 (same_tr fn4 (same_tr fu4 (same_tr fo4 (same_tr ft2 (same_tr ft3 (same_tr fw (same_tr fn5 (same_tr fu5 (same_tr fo5 (same_tr ft4 fL)))))))))))))))))))))))))))
    have nw : H w = none := same_free (same_tr fk0 (same_tr fk1 (same_tr fk2 (same_tr fk3 (same_tr fk4 (same_tr fk5 (same_tr fm (same_tr fu0 (same_tr fo0 (same_tr fn1 (same_tr fu1 (same_tr fo1 (same_tr fu2 (same_tr fo2 (same_tr ft1 (same_tr fu3 (same_tr fo3 (same_tr fn4 (same_tr fu4 (same_tr fo4 (same_tr ft2 (same_tr ft3 same_rfl)))))))))))))))))))))) hw
    refine k w _ (fun b o e => (upd_ne (ne_of_none e nw)).trans (g0 _ _ e)) nw ⟨⟨m, l, [k0, k1, k2, k3, k4, k5], [o0, o1, o2, o3, o4, o5], upd_same, ⟨.inl ⟨obm, ?_, dm⟩, ?_⟩, ⟨SqT.of ?_, ?_⟩⟩, std_ks, std_os⟩
    · exact ((upd_ne (ne_of (fL _ _ (ft4 _ _ (fo5 _ _ (fu5 _ _ (fn5 _ _ (fw _ _ (ft3 _ _ (ft2 _ _ (fo4 _ _ (fu4 _ _ (fn4 _ _ (fo3 _ _ (fu3 _ _ (ft1 _ _ (fo2 _ _ (fu2 _ _ (fo1 _ _ (fu1 _ _ (fn1 _ _ (fo0 _ _ (fu0 _ _ (em)))))))))))))))))))))) ew0 (by intro z; cases z))).trans (fL _ _ (ft4 _ _ (fo5 _ _ (fu5 _ _ (fn5 _ _ (fw _ _ (ft3 _ _ (ft2 _ _ (fo4 _ _ (fu4 _ _ (fn4 _ _ (fo3 _ _ (fu3 _ _ (ft1 _ _ (fo2 _ _ (fu2 _ _ (fo1 _ _ (fu1 _ _ (fn1 _ _ (fo0 _ _ (fu0 _ _ (em)))))))))))))))))))))))
    · exact (.cons (SqT.of ((upd_ne (ne_of (fL _ _ (ft4 _ _ (fo5 _ _ (fu5 _ _ (fn5 _ _ (fw _ _ (ft3 _ _ (ft2 _ _ (fo4 _ _ (fu4 _ _ (fn4 _ _ (fo3 _ _ (fu3 _ _ (ft1 _ _ (fo2 _ _ (fu2 _ _ (fo1 _ _ (fu1 _ _ (fn1 _ _ (fo0 _ _ (fu0 _ _ (fm _ _ (fk5 _ _ (fk4 _ _ (fk3 _ _ (fk2 _ _ (fk1 _ _ (ek0)))))))))))))))))))))))))))) ew0 (by intro z; cases z))).trans (fL _ _ (ft4 _ _ (fo5 _ _ (fu5 _ _ (fn5 _ _ (fw _ _ (ft3 _ _ (ft2 _ _ (fo4 _ _ (fu4 _ _ (fn4 _ _ (fo3 _ _ (fu3 _ _ (ft1 _ _ (fo2 _ _ (fu2 _ _ (fo1 _ _ (fu1 _ _ (fn1 _ _ (fo0 _ _ (fu0 _ _ (fm _ _ (fk5 _ _ (fk4 _ _ (fk3 _ _ (fk2 _ _ (fk1 _ _ (ek0)))))))))))))))))))))))))))))) (.cons (SqT.of ((upd_ne (ne_of (fL _ _ (ft4 _ _ (fo5 _ _ (fu5 _ _ (fn5 _ _ (fw _ _ (ft3 _ _ (ft2 _ _ (fo4 _ _ (fu4 _ _ (fn4 _ _ (fo3 _ _ (fu3 _ _ (ft1 _ _ (fo2 _ _ (fu2 _ _ (fo1 _ _ (fu1 _ _ (fn1 _ _ (fo0 _ _ (fu0 _ _ (fm _ _ (fk5 _ _ (fk4 _ _ (fk3 _ _ (fk2 _ _ (ek1))))))))))))))))))))))))))) ew0 (by intro z; cases z))).trans (fL _ _ (ft4 _ _ (fo5 _ _ (fu5 _ _ (fn5 _ _ (fw _ _ (ft3 _ _ (ft2 _ _ (fo4 _ _ (fu4 _ _ (fn4 _ _ (fo3 _ _ (fu3 _ _ (ft1 _ _ (fo2 _ _ (fu2 _ _ (fo1 _ _ (fu1 _ _ (fn1 _ _ (fo0 _ _ (fu0 _ _ (fm _ _ (fk5 _ _ (fk4 _ _ (fk3 _ _ (fk2 _ _ (ek1))))))))))))))))))))))))))))) (.cons (SqT.of ((upd_ne (ne_of (fL _ _ (ft4 _ _ (fo5 _ _ (fu5 _ _ (fn5 _ _ (fw _ _ (ft3 _ _ (ft2 _ _ (fo4 _ _ (fu4 _ _ (fn4 _ _ (fo3 _ _ (fu3 _ _ (ft1 _ _ (fo2 _ _ (fu2 _ _ (fo1 _ _ (fu1 _ _ (fn1 _ _ (fo0 _ _ (fu0 _ _ (fm _ _ (fk5 _ _ (fk4 _ _ (fk3 _ _ (ek2)))))))))))))))))))))))))) ew0 (by intro z; cases z))).trans (fL _ _ (ft4 _ _ (fo5 _ _ (fu5 _ _ (fn5 _ _ (fw _ _ (ft3 _ _ (ft2 _ _ (fo4 _ _ (fu4 _ _ (fn4 _ _ (fo3 _ _ (fu3 _ _ (ft1 _ _ (fo2 _ _ (fu2 _ _ (fo1 _ _ (fu1 _ _ (fn1 _ _ (fo0 _ _ (fu0 _ _ (fm _ _ (fk5 _ _ (fk4 _ _ (fk3 _ _ (ek2)))))))))))))))))))))))))))) (.cons (SqT.of ((upd_ne (ne_of (fL _ _ (ft4 _ _ (fo5 _ _ (fu5 _ _ (fn5 _ _ (fw _ _ (ft3 _ _ (ft2 _ _ (fo4 _ _ (fu4 _ _ (fn4 _ _ (fo3 _ _ (fu3 _ _ (ft1 _ _ (fo2 _ _ (fu2 _ _ (fo1 _ _ (fu1 _ _ (fn1 _ _ (fo0 _ _ (fu0 _ _ (fm _ _ (fk5 _ _ (fk4 _ _ (ek3))))))))))))))))))))))))) ew0 (by intro z; cases z))).trans (fL _ _ (ft4 _ _ (fo5 _ _ (fu5 _ _ (fn5 _ _ (fw _ _ (ft3 _ _ (ft2 _ _ (fo4 _ _ (fu4 _ _ (fn4 _ _ (fo3 _ _ (fu3 _ _ (ft1 _ _ (fo2 _ _ (fu2 _ _ (fo1 _ _ (fu1 _ _ (fn1 _ _ (fo0 _ _ (fu0 _ _ (fm _ _ (fk5 _ _ (fk4 _ _ (ek3))))))))))))))))))))))))))) (.cons (SqT.of ((upd_ne (ne_of (fL _ _ (ft4 _ _ (fo5 _ _ (fu5 _ _ (fn5 _ _ (fw _ _ (ft3 _ _ (ft2 _ _ (fo4 _ _ (fu4 _ _ (fn4 _ _ (fo3 _ _ (fu3 _ _ (ft1 _ _ (fo2 _ _ (fu2 _ _ (fo1 _ _ (fu1 _ _ (fn1 _ _ (fo0 _ _ (fu0 _ _ (fm _ _ (fk5 _ _ (ek4)))))))))))))))))))))))) ew0 (by intro z; cases z))).trans (fL _ _ (ft4 _ _ (fo5 _ _ (fu5 _ _ (fn5 _ _ (fw _ _ (ft3 _ _ (ft2 _ _ (fo4 _ _ (fu4 _ _ (fn4 _ _ (fo3 _ _ (fu3 _ _ (ft1 _ _ (fo2 _ _ (fu2 _ _ (fo1 _ _ (fu1 _ _ (fn1 _ _ (fo0 _ _ (fu0 _ _ (fm _ _ (fk5 _ _ (ek4)))))))))))))))))))))))))) (.cons (SqT.of ((upd_ne (ne_of (fL _ _ (ft4 _ _ (fo5 _ _ (fu5 _ _ (fn5 _ _ (fw _ _ (ft3 _ _ (ft2 _ _ (fo4 _ _ (fu4 _ _ (fn4 _ _ (fo3 _ _ (fu3 _ _ (ft1 _ _ (fo2 _ _ (fu2 _ _ (fo1 _ _ (fu1 _ _ (fn1 _ _ (fo0 _ _ (fu0 _ _ (fm _ _ (ek5))))))))))))))))))))))) ew0 (by intro z; cases z))).trans (fL _ _ (ft4 _ _ (fo5 _ _ (fu5 _ _ (fn5 _ _ (fw _ _ (ft3 _ _ (ft2 _ _ (fo4 _ _ (fu4 _ _ (fn4 _ _ (fo3 _ _ (fu3 _ _ (ft1 _ _ (fo2 _ _ (fu2 _ _ (fo1 _ _ (fu1 _ _ (fn1 _ _ (fo0 _ _ (fu0 _ _ (fm _ _ (ek5))))))))))))))))))))))))) .nil))))))
    · exact ((upd_ne (ne_of (el) ew0 (by intro z; cases z))).trans (el))
    · exact (.cons ⟨u0, [], SqT.of ((upd_ne (ne_of (fL _ _ (ft4 _ _ (fo5 _ _ (fu5 _ _ (fn5 _ _ (fw _ _ (ft3 _ _ (ft2 _ _ (fo4 _ _ (fu4 _ _ (fn4 _ _ (fo3 _ _ (fu3 _ _ (ft1 _ _ (fo2 _ _ (fu2 _ _ (fo1 _ _ (fu1 _ _ (fn1 _ _ (eo0)))))))))))))))))))) ew0 (by intro z; cases z))).trans (fL _ _ (ft4 _ _ (fo5 _ _ (fu5 _ _ (fn5 _ _ (fw _ _ (ft3 _ _ (ft2 _ _ (fo4 _ _ (fu4 _ _ (fn4 _ _ (fo3 _ _ (fu3 _ _ (ft1 _ _ (fo2 _ _ (fu2 _ _ (fo1 _ _ (fu1 _ _ (fn1 _ _ (eo0))))))))))))))))))))), SqT.of ((upd_ne (ne_of (fL _ _ (ft4 _ _ (fo5 _ _ (fu5 _ _ (fn5 _ _ (fw _ _ (ft3 _ _ (ft2 _ _ (fo4 _ _ (fu4 _ _ (fn4 _ _ (fo3 _ _ (fu3 _ _ (ft1 _ _ (fo2 _ _ (fu2 _ _ (fo1 _ _ (fu1 _ _ (fn1 _ _ (fo0 _ _ (eu0))))))))))))))))))))) ew0 (by intro z; cases z))).trans (fL _ _ (ft4 _ _ (fo5 _ _ (fu5 _ _ (fn5 _ _ (fw _ _ (ft3 _ _ (ft2 _ _ (fo4 _ _ (fu4 _ _ (fn4 _ _ (fo3 _ _ (fu3 _ _ (ft1 _ _ (fo2 _ _ (fu2 _ _ (fo1 _ _ (fu1 _ _ (fn1 _ _ (fo0 _ _ (eu0)))))))))))))))))))))), .nil⟩ (.cons ⟨u1, [n1], SqT.of ((upd_ne (ne_of (fL _ _ (ft4 _ _ (fo5 _ _ (fu5 _ _ (fn5 _ _ (fw _ _ (ft3 _ _ (ft2 _ _ (fo4 _ _ (fu4 _ _ (fn4 _ _ (fo3 _ _ (fu3 _ _ (ft1 _ _ (fo2 _ _ (fu2 _ _ (eo1))))))))))))))))) ew0 (by intro z; cases z))).trans (fL _ _ (ft4 _ _ (fo5 _ _ (fu5 _ _ (fn5 _ _ (fw _ _ (ft3 _ _ (ft2 _ _ (fo4 _ _ (fu4 _ _ (fn4 _ _ (fo3 _ _ (fu3 _ _ (ft1 _ _ (fo2 _ _ (fu2 _ _ (eo1)))))))))))))))))), SqT.of ((upd_ne (ne_of (fL _ _ (ft4 _ _ (fo5 _ _ (fu5 _ _ (fn5 _ _ (fw _ _ (ft3 _ _ (ft2 _ _ (fo4 _ _ (fu4 _ _ (fn4 _ _ (fo3 _ _ (fu3 _ _ (ft1 _ _ (fo2 _ _ (fu2 _ _ (fo1 _ _ (eu1)))))))))))))))))) ew0 (by intro z; cases z))).trans (fL _ _ (ft4 _ _ (fo5 _ _ (fu5 _ _ (fn5 _ _ (fw _ _ (ft3 _ _ (ft2 _ _ (fo4 _ _ (fu4 _ _ (fn4 _ _ (fo3 _ _ (fu3 _ _ (ft1 _ _ (fo2 _ _ (fu2 _ _ (fo1 _ _ (eu1))))))))))))))))))), (.cons (SqT.of ((upd_ne (ne_of (fL _ _ (ft4 _ _ (fo5 _ _ (fu5 _ _ (fn5 _ _ (fw _ _ (ft3 _ _ (ft2 _ _ (fo4 _ _ (fu4 _ _ (fn4 _ _ (fo3 _ _ (fu3 _ _ (ft1 _ _ (fo2 _ _ (fu2 _ _ (fo1 _ _ (fu1 _ _ (en1))))))))))))))))))) ew0 (by intro z; cases z))).trans (fL _ _ (ft4 _ _ (fo5 _ _ (fu5 _ _ (fn5 _ _ (fw _ _ (ft3 _ _ (ft2 _ _ (fo4 _ _ (fu4 _ _ (fn4 _ _ (fo3 _ _ (fu3 _ _ (ft1 _ _ (fo2 _ _ (fu2 _ _ (fo1 _ _ (fu1 _ _ (en1))))))))))))))))))))) .nil)⟩ (.cons ⟨u2, [], SqT.of ((upd_ne (ne_of (fL _ _ (ft4 _ _ (fo5 _ _ (fu5 _ _ (fn5 _ _ (fw _ _ (ft3 _ _ (ft2 _ _ (fo4 _ _ (fu4 _ _ (fn4 _ _ (fo3 _ _ (fu3 _ _ (ft1 _ _ (eo2))))))))))))))) ew0 (by intro z; cases z))).trans (fL _ _ (ft4 _ _ (fo5 _ _ (fu5 _ _ (fn5 _ _ (fw _ _ (ft3 _ _ (ft2 _ _ (fo4 _ _ (fu4 _ _ (fn4 _ _ (fo3 _ _ (fu3 _ _ (ft1 _ _ (eo2)))))))))))))))), SqT.of ((upd_ne (ne_of (fL _ _ (ft4 _ _ (fo5 _ _ (fu5 _ _ (fn5 _ _ (fw _ _ (ft3 _ _ (ft2 _ _ (fo4 _ _ (fu4 _ _ (fn4 _ _ (fo3 _ _ (fu3 _ _ (ft1 _ _ (fo2 _ _ (eu2)))))))))))))))) ew0 (by intro z; cases z))).trans (fL _ _ (ft4 _ _ (fo5 _ _ (fu5 _ _ (fn5 _ _ (fw _ _ (ft3 _ _ (ft2 _ _ (fo4 _ _ (fu4 _ _ (fn4 _ _ (fo3 _ _ (fu3 _ _ (ft1 _ _ (fo2 _ _ (eu2))))))))))))))))), .nil⟩ (.cons ⟨u3, [], SqT.of ((upd_ne (ne_of (fL _ _ (ft4 _ _ (fo5 _ _ (fu5 _ _ (fn5 _ _ (fw _ _ (ft3 _ _ (ft2 _ _ (fo4 _ _ (fu4 _ _ (fn4 _ _ (eo3)))))))))))) ew0 (by intro z; cases z))).trans (fL _ _ (ft4 _ _ (fo5 _ _ (fu5 _ _ (fn5 _ _ (fw _ _ (ft3 _ _ (ft2 _ _ (fo4 _ _ (fu4 _ _ (fn4 _ _ (eo3))))))))))))), SqT.of ((upd_ne (ne_of (fL _ _ (ft4 _ _ (fo5 _ _ (fu5 _ _ (fn5 _ _ (fw _ _ (ft3 _ _ (ft2 _ _ (fo4 _ _ (fu4 _ _ (fn4 _ _ (fo3 _ _ (eu3))))))))))))) ew0 (by intro z; cases z))).trans (fL _ _ (ft4 _ _ (fo5 _ _ (fu5 _ _ (fn5 _ _ (fw _ _ (ft3 _ _ (ft2 _ _ (fo4 _ _ (fu4 _ _ (fn4 _ _ (fo3 _ _ (eu3)))))))))))))), .nil⟩ (.cons ⟨u4, [n4], SqT.of ((upd_ne (ne_of (fL _ _ (ft4 _ _ (fo5 _ _ (fu5 _ _ (fn5 _ _ (fw _ _ (ft3 _ _ (ft2 _ _ (eo4))))))))) ew0 (by intro z; cases z))).trans (fL _ _ (ft4 _ _ (fo5 _ _ (fu5 _ _ (fn5 _ _ (fw _ _ (ft3 _ _ (ft2 _ _ (eo4)))))))))), SqT.of ((upd_ne (ne_of (fL _ _ (ft4 _ _ (fo5 _ _ (fu5 _ _ (fn5 _ _ (fw _ _ (ft3 _ _ (ft2 _ _ (fo4 _ _ (eu4)))))))))) ew0 (by intro z; cases z))).trans (fL _ _ (ft4 _ _ (fo5 _ _ (fu5 _ _ (fn5 _ _ (fw _ _ (ft3 _ _ (ft2 _ _ (fo4 _ _ (eu4))))))))))), (.cons (SqT.of ((upd_ne (ne_of (fL _ _ (ft4 _ _ (fo5 _ _ (fu5 _ _ (fn5 _ _ (fw _ _ (ft3 _ _ (ft2 _ _ (fo4 _ _ (fu4 _ _ (en4))))))))))) ew0 (by intro z; cases z))).trans (fL _ _ (ft4 _ _ (fo5 _ _ (fu5 _ _ (fn5 _ _ (fw _ _ (ft3 _ _ (ft2 _ _ (fo4 _ _ (fu4 _ _ (en4))))))))))))) .nil)⟩ (.cons ⟨u5, [n5], SqT.of ((upd_ne (ne_of (fL _ _ (ft4 _ _ (eo5))) ew0 (by intro z; cases z))).trans (fL _ _ (ft4 _ _ (eo5)))), SqT.of ((upd_ne (ne_of (fL _ _ (ft4 _ _ (fo5 _ _ (eu5)))) ew0 (by intro z; cases z))).trans (fL _ _ (ft4 _ _ (fo5 _ _ (eu5))))), (.cons (SqT.of ((upd_ne (ne_of (fL _ _ (ft4 _ _ (fo5 _ _ (fu5 _ _ (en5))))) ew0 (by intro z; cases z))).trans (fL _ _ (ft4 _ _ (fo5 _ _ (fu5 _ _ (en5))))))) .nil)⟩ .nil))))))
theorem scNeedW : FnScope nNeedW ["_law_deck_here", "_law_sorts", "_law_many"] (defScope sNeedW) := ⟨rfl, rfl, rfl, by decide +kernel, rfl, by decide +kernel, by decide +kernel⟩
theorem ok_needW {f fD fP : Addr} {fd fdD fdP : FuncData} (F : Fun K "_law_need" "_law_need" sNeedW f fd) (GD : FnOk P w K mg base CX0 1 fD fdD ["_law_deck_here", "_law_many"] spDraw) (bD : Binds K fdD ["_law_deck_here", "_law_many"] [])
    (GP : FnOk P w K mg base CX0 2 fP fdP ["_law_deck_here", "_law_some"] spPick) (bP : Binds K fdP ["_law_deck_here", "_law_some"] []) (T : TxtDP K mg fD fP) : FnOk P w K mg base CX0 3 f fd ["_law_deck_here", "_law_sorts", "_law_many"] (spNeedW K) := by
  refine F.ok scNeedW (fun vs H Q E h => ?_) (fun cdv A outer s H vs Q E hr h => ?_)
  · obtain ⟨dk, dl, p, t, m, ps, ks, rfl, _⟩ := h
    rfl
  · obtain ⟨dk, dl, p, t, m, ps, ks, rfl, hD, hpl, hp, hps, k8, m1, m3, kw, t0, t1, k⟩ := h
    have hr1 : Room 1 _ := hr.mono (by decide)
    have line : sizeLine = 16777216 := sizeLine_eq
    refine ⟨_, pss_cons (ps_setLc (i := 3) (own := [("_law_label", 5), ("_law_count", 6)]) (g := gTup K 2 (gCons (gName 5) (gCons (gName 6) gNil))) rfl scNeedW.nd rfl rfl (sw_true rfl rfl rfl (by decide +kernel)) (pi_list (pv 1))
        (blkOk_by (own := [("_law_label", 5), ("_law_count", 6)]) (N := nNeedW) (sc := defScope sNeedW) (by decide +kernel))
        (fun _ _ _ _ _ => pg_tup rfl (pgs_cons (pg_name (i := 5) scNeedW.nd rfl (Or.inl rfl)) (pgs_cons (pg_name (i := 6) scNeedW.nd rfl (Or.inl rfl)) pgs_nil)))
        (fun _ _ _ _ _ => pts_one (pt_cmpR op_eq (pv 6) pe_int (nomark _))) (fun _ _ _ _ _ => pv 5))
      (pss_cons (ps_set (i := 4) scNeedW.nd rfl (.inl rfl) (pe_call GD hr1 rfl T.d T.kd bD .nil pass0 (pa_cons (pv 0) (pa_cons (pv 2) pa_nil))))
      (pss_cons (ps_if (PW.pt (pw_or (pt_cmpR (op_eqD hr.units) (pv 3) (pe_lst pa_nil) (nomark _)) (pw_or1 (pt_cmpR op_eq (pe_call GD hr1 rfl T.d T.kd bD .nil pass0 (pa_cons (pv 0) (pa_cons pe_int pa_nil))) pe_int (nomark _))))) (pss_one (ps_ret (pe_tup (pa_cons pe_str (pa_cons (pv 4) pa_nil))))) pss_nil)
      (pss_one (ps_ret (pe_ifExp (pt_cmpR op_eq (pe_call GD hr1 rfl T.d T.kd bD .nil pass0 (pa_cons (pv 0) (pa_cons pe_int pa_nil))) pe_int (nomark _))
        (pe_tup (pa_cons pe_str (pa_cons (pe_call GP hr rfl T.p T.kp bP .nil pass0 (pa_cons (pv 0) (pa_cons (pv 3) pa_nil))) (pa_cons (pv 4) pa_nil))))
        (pe_tup (pa_cons pe_str (pa_cons (pv 4) (pa_cons (pe_call GP hr rfl T.p T.kp bP .nil pass0 (pa_cons (pv 0) (pa_cons (pv 3) pa_nil))) pa_nil))))))))), ?_⟩
    have pl := hps.length
    refine ⟨_, rfl, p, rfl, ⟨_, SqL.of hp⟩, fun D hD0 => ?_⟩
    refine lc_list (K := K) (a := p) (xs := ps.map V.ref) (fun i H3 => H3 = upd H D (.lst ((singles (ks.take i)).map V.str))) rfl (fun i H3 _ e => by rw [e]; exact SqL.of ((upd_ne (ne_of_none hp hD0)).trans hp)) ?_ ?_
    · rintro i y H3 hi rfl
      rw [List.getElem?_map] at hi
      obtain ⟨a, ha, rfl⟩ := Option.map_eq_some_iff.mp hi
      obtain ⟨q, hq, hv⟩ := paired_at hps ha
      have hlt : (singles (ks.take i)).length ≤ 8 := by
        have z1 := singles_len (ks.take i)
        have z2 : (ks.take i).length ≤ ks.length := by rw [List.length_take]; omega
        omega
      refine ⟨a, _, rfl, kt_same (same_new same_rfl hD0) _ _ hv, rfl, _, _, rfl, _, _, rfl, rfl, rfl, _, rfl, rfl, _, rfl, ite2 (fun hb => ?_) (fun hb => ?_)⟩
      · have e2 : q.2 = 1 := by
          have := of_decide_eq_true hb
          injection this
        refine ⟨_, rfl, _, upd_same, by rw [List.length_map, sizeLine_eq]; omega, ?_⟩
        rw [upd_upd, singles_yes hq e2, List.map_append]
        rfl
      · have e2 : q.2 ≠ 1 := fun z => hb (by rw [z]; rfl)
        rw [singles_no hq e2]
    · rintro H3 rfl
      rw [List.take_of_length_le (by rw [List.length_map, pl]; exact Nat.le_refl _)]
      have D1 := hD.new (o := .lst ((singles ks).map V.str)) hD0
      have K1 : Keep dk dl H (upd H D (.lst ((singles ks).map V.str))) := Keep.refl.new hD0
      have e1 : upd H D (.lst ((singles ks).map V.str)) D = some (.lst ((singles ks).map V.str)) := upd_same
      obtain ⟨Dk, Dl⟩ := hD.off hD0
      have sok : ∀ x ∈ singles ks, PyData.strOk x = true := fun x hx => ww_ok _ (kw _ (singles_mem hx))
      have sl := singles_len ks
      show Ends.nx _ _ (upd H D (.lst ((singles ks).map V.str)))
      generalize upd H D (.lst ((singles ks).map V.str)) = H1 at D1 K1 e1
      refine ⟨_, rfl, _, rfl, dk, dl, m, t, rfl, D1, m1, by omega, t0, by omega, fun j H2 j0 j1 D2 K2 => ?_⟩
      have e2 := K2 _ _ Dk Dl e1
      have K02 := K1.trans K2
      have part : ∀ H3 t3 q, DeckAt H3 dk dl t3 → t ≤ t3 → t3 ≤ t + 4 → Keep dk dl H H3 → H3 q = none → Q (.ref q) (upd H3 q (.tup [.str (lw "part"), .int j])) := fun H3 t3 q D3 a b K3 hq =>
        k q (.part j) t3 _ (D3.new hq) a b (K3.new hq) (SqT.of upd_same) ⟨j0, j1⟩
      refine ⟨_, rfl, (by show 0 ≤ sizeLine; exact Nat.zero_le _), fun e he => ?_⟩
      have kE : Keep dk dl H2 (upd H2 e (.lst [])) := Keep.refl.new he
      have hpE := kE _ _ Dk Dl e2
      have DE := D2.new (o := .lst []) he
      refine ⟨_, _, .lst (SqL.of hpE) (strs_dp _), .lst (SqL.of upd_same) .nil, strs_shaped sok, rfl, _, rfl, ?_⟩
      generalize upd H2 e (.lst []) = HE at kE hpE DE
      have K0E := K02.trans kE
      cases hs : singles ks with
      | nil =>
        refine ite2 (fun _ => ?_) (fun z => absurd rfl z)
        exact ⟨_, rfl, (by show 2 ≤ sizeLine; omega), fun q hq => part HE (t + 1) q DE (by omega) (by omega) K0E hq⟩
      | cons c0 cr =>
        refine ite2 (fun z => absurd z (by simp [PyData.eqv, PyData.eqvAll])) (fun _ => ?_)
        refine ⟨_, rfl, dk, dl, 2, t + 1, rfl, DE, by decide, by decide, by omega, by omega, fun b H4 b0 b1 D4 K4 => ?_⟩
        have K04 := K0E.trans K4
        refine ⟨rfl, _, rfl, ite2 (fun _ => ?_) (fun _ => ?_)⟩
        · exact ⟨_, rfl, (by show 2 ≤ sizeLine; omega), fun q hq => part H4 _ q D4 (by omega) (by omega) K04 hq⟩
        · refine ⟨_, rfl, dk, dl, 2, t + 1 + 1, rfl, D4, by decide, by decide, by omega, by omega, fun b2 H5 _ _ D5 K5 => ?_⟩
          have K05 := K04.trans K5
          have e5 := K5 _ _ Dk Dl (K4 _ _ Dk Dl hpE)
          have ne : (singles ks).map V.str ≠ [] := by rw [hs]; simp
          have len : ((singles ks).map V.str).length ≤ 100 := by rw [List.length_map]; omega
          refine ⟨rfl, _, rfl, ite2 (fun _ => ?_) (fun _ => ?_)⟩
          · refine ⟨_, rfl, _, rfl, dk, dl, D, t + 1 + 1 + 1, _, rfl, D5, Dl, e5, ne, len, by omega, by omega, fun y H6 hy D6 K6 => ?_⟩
            obtain ⟨c, hc, rfl⟩ := List.mem_map.mp hy
            exact ⟨_, rfl, (by show 3 ≤ sizeLine; omega), fun q hq => k q (.around c j) _ _ (D6.new hq) (by omega) (by omega) ((K05.trans K6).new hq) (SqT.of upd_same) ⟨singles_mem hc, j0, j1⟩⟩
          · refine ⟨_, rfl, _, rfl, _, rfl, dk, dl, D, t + 1 + 1 + 1, _, rfl, D5, Dl, e5, ne, len, by omega, by omega, fun y H6 hy D6 K6 => ?_⟩
            obtain ⟨c, hc, rfl⟩ := List.mem_map.mp hy
            exact ⟨(by show 3 ≤ sizeLine; omega), fun q hq => k q (.inside j c) _ _ (D6.new hq) (by omega) (by omega) ((K05.trans K6).new hq) (SqT.of upd_same) ⟨singles_mem hc, j0, j1⟩⟩

end
end K15


set_option Elab.async false
set_option linter.all false
set_option maxRecDepth 100000
set_option maxHeartbeats 1000000
namespace K15
open PySem PySem.Spec PyProof.Rows L2 Mine TL StX SkE
set_option maxHeartbeats 4000000
section
variable {P : Program} {w : World} {K : PySem.W.Frag} {mg : Str → Option Value} {base : Heap}
theorem scWorld : FnScope nWorld ["_law_deck_here"] (defScope sWorld) := ⟨rfl, rfl, rfl, by decide +kernel, rfl, by decide +kernel, by decide +kernel⟩
theorem ok_world {f fD fP fN fT : Addr} {fd dD dP dN dT : FuncData} (F : Fun K "_law_world" "_law_world" sWorld f fd) (GD : FnOk P w K mg base CX0 1 fD dD ["_law_deck_here", "_law_many"] spDraw) (bD : Binds K dD ["_law_deck_here", "_law_many"] [])
    (GP : FnOk P w K mg base CX0 2 fP dP ["_law_deck_here", "_law_some"] spPick) (bP : Binds K dP ["_law_deck_here", "_law_some"] []) (GN : FnOk P w K mg base CX0 3 fN dN ["_law_deck_here", "_law_sorts", "_law_many"] (spNeedW K)) (bN : Binds K dN ["_law_deck_here", "_law_sorts", "_law_many"] [])
    (GT : FnOk P w K mg base CX0 1 fT dT [] (spTold K)) (bT : Binds K dT [] []) (T : TxtWo K mg fD fP fN fT) : FnOk P w K mg base CX0 4 f fd ["_law_deck_here"] (spWorld K) := by
  refine F.ok scWorld (fun vs H Q E h => ?_) (fun cdv A outer s H vs Q E hr h => ?_)
  · obtain ⟨dk, dl, t, rfl, _⟩ := h
    rfl
  · obtain ⟨dk, dl, t, rfl, hD, t0, t1, k⟩ := h
    have hr1 : Room 1 _ := hr.mono (by decide)
    have hr2 : Room 2 _ := hr.mono (by decide)
    have line : sizeLine = 16777216 := sizeLine_eq
    refine ⟨_, pss_cons (ps_if (pt_cmpR op_eq (pe_call GD hr1 rfl T.d T.kd bD .nil pass0 (pa_cons (pv 0) (pa_cons pe_int pa_nil))) pe_int (nomark _)) (pss_one (ps_ret (pe_call0 GT hr1 rfl T.t T.kt bT .nil pass0))) pss_nil)
      (pss_cons (ps_asg (pe_tup (pa_cons (pe_lst (pa_cons pe_str (pa_cons pe_str (pa_cons pe_str (pa_cons pe_str (pa_cons pe_str (pa_cons pe_str (pa_cons pe_str (pa_cons pe_str (pa_cons pe_str (pa_cons pe_str (pa_cons pe_str pa_nil)))))))))))) (pa_cons (pe_lst pa_nil) (pa_cons (pe_lst pa_nil) pa_nil)))) (pg_tup rfl (pgs_cons (pg_name (i := 1) scWorld.nd rfl (.inl rfl)) (pgs_cons (pg_name (i := 2) scWorld.nd rfl (.inr rfl)) (pgs_cons (pg_name (i := 3) scWorld.nd rfl (.inl rfl)) pgs_nil)))))
      (pss_cons (ps_for PassesOwn.never rfl (pi_range1 rfl T.range (pa_cons (pe_op op_add pe_int (pe_call GD hr1 rfl T.d T.kd bD .nil pass0 (pa_cons (pv 0) (pa_cons pe_int pa_nil)))) pa_nil)) (pg_name (i := 4) scWorld.nd rfl (.inl rfl))
        (pss_one (ps_expr (pe_bm PySem.F.plainAttrs_list PySem.F.slot_list_append PySem.F.type_list_append mt_append (pv 2) (pa_cons (pe_tup (pa_cons (pe_bm PySem.F.plainAttrs_list PySem.F.slot_list_pop PySem.F.type_list_pop mt_popAt (pv 1) (pa_cons (pe_call GD hr1 rfl T.d T.kd bD .nil pass0 (pa_cons (pv 0) (pa_cons (pe_callB call_len_seq (by rfl) T.len PySem.boot_len (pa_cons (pv 1) pa_nil)) pa_nil))) pa_nil))
          (pa_cons (pe_ix ix_list (pe_lst (pa_cons pe_int (pa_cons pe_int (pa_cons pe_int pa_nil)))) (pe_call GD hr1 rfl T.d T.kd bD .nil pass0 (pa_cons (pv 0) (pa_cons pe_int pa_nil))) (fun _ _ => rfl)) pa_nil))) pa_nil)))))
      (pss_cons (ps_for PassesOwn.never rfl (pi_range1 rfl T.range (pa_cons (pe_call GD hr1 rfl T.d T.kd bD .nil pass0 (pa_cons (pv 0) (pa_cons pe_int pa_nil))) pa_nil)) (pg_name (i := 4) scWorld.nd rfl (.inl rfl))
        (pss_cons (ps_asg (pe_call GP hr2 rfl T.p T.kp bP .nil pass0 (pa_cons (pv 0) (pa_cons (pv 2) pa_nil))) (pg_tup rfl (pgs_cons (pg_name (i := 5) scWorld.nd rfl (.inl rfl)) (pgs_cons (pg_name (i := 6) scWorld.nd rfl (.inr rfl)) pgs_nil))))
        (pss_cons (ps_set (i := 7) scWorld.nd rfl (.inl rfl) (pe_call GD hr1 rfl T.d T.kd bD .nil pass0 (pa_cons (pv 0) (pa_cons (pv 6) pa_nil))))
        (pss_cons (ps_set (i := 8) scWorld.nd rfl (.inl rfl) (pe_callTy call_tuple_of (by rfl) T.tuple (by decide +kernel) (pa_cons (pe_lc (own := [("_law_turn", 9)]) (g := gName 9) (tt := tYes) rfl scWorld.nd (pi_range1 rfl T.range (pa_cons (pe_call GP hr2 rfl T.p T.kp bP .nil pass0 (pa_cons (pv 0) (pa_cons (pe_lst (pa_cons pe_int (pa_cons pe_int (pa_cons pe_int (pa_cons pe_int pa_nil))))) pa_nil))) pa_nil))
            (blkOk_by (own := [("_law_turn", 9)]) (N := nWorld) (sc := defScope sWorld) (by decide +kernel))
            (fun _ _ _ _ _ => pg_name (i := 9) scWorld.nd rfl (Or.inl rfl)) (fun _ _ _ _ _ => pts_nil)
            (fun _ _ _ _ _ => pe_call GN hr rfl T.n T.kn bN .nil pass0 (pa_cons (pv 0) (pa_cons (pv 2) (pa_cons (pv 6) pa_nil))))) pa_nil)))
        (pss_one (ps_expr (pe_bm PySem.F.plainAttrs_list PySem.F.slot_list_append PySem.F.type_list_append mt_append (pv 3) (pa_cons (pe_tup (pa_cons (pe_bm PySem.F.plainAttrs_list PySem.F.slot_list_pop PySem.F.type_list_pop mt_popAt (pv 1) (pa_cons (pe_call GD hr1 rfl T.d T.kd bD .nil pass0 (pa_cons (pv 0) (pa_cons (pe_callB call_len_seq (by rfl) T.len PySem.boot_len (pa_cons (pv 1) pa_nil)) pa_nil))) pa_nil))
          (pa_cons (pv 5) (pa_cons (pv 7) (pa_cons (pv 8) pa_nil))))) pa_nil))))))))
      (pss_one (ps_ret (pe_disp (pps_cons pe_str (pe_callTy call_tupleF (by rfl) T.tuple (by decide +kernel) (pa_cons (pe_callB cr_sortedH (by rfl) T.sorted (by decide +kernel) (pa_cons (pv 2) pa_nil)) pa_nil)) (pps_cons pe_str (pe_callTy call_tupleF (by rfl) T.tuple (by decide +kernel) (pa_cons (pe_callB cr_sortedH (by rfl) T.sorted (by decide +kernel) (pa_cons (pv 3) pa_nil)) pa_nil)) pps_nil)) (by rfl) (by rfl) (fun z => by cases z) (by decide))))))), ?_⟩
    refine ⟨_, rfl, dk, dl, 3, t, rfl, hD, by decide, by decide, t0, by omega, fun b H1 b0 b1 D1 K1 => ⟨rfl, _, rfl, ite2 (fun _ => ?_) (fun _ => ?_)⟩⟩
    · exact ⟨rfl, fun w H2 s2 nw W => k w stdKs stdOs (t + 1) H2 (deck_same D1 s2) (by omega) (by omega) (K1.trans (same_keep s2)) W⟩
    refine ⟨(by show 11 ≤ sizeLine; omega), fun pp hpp => ⟨Nat.zero_le _, fun pf hpf => ⟨Nat.zero_le _, fun py hpy => ⟨(by show 3 ≤ sizeLine; omega), fun q hq => ?_⟩⟩⟩⟩
    refine ⟨q, _, rfl, SqT.of upd_same, rfl, _, _, rfl, _, _, rfl, _, _, rfl, rfl, ?_⟩
    have f1 : Same H1 (upd H1 pp (.lst (POOL.map V.str))) := same_new same_rfl hpp
    have g1 : upd H1 pp (.lst (POOL.map V.str)) pp = some (.lst (POOL.map V.str)) := upd_same
    have hpf' : upd H1 pp (.lst (POOL.map V.str)) pf = none := hpf
    have hpy' : upd (upd H1 pp (.lst (POOL.map V.str))) pf (.lst []) py = none := hpy
    have hq' : upd (upd (upd H1 pp (.lst (POOL.map V.str))) pf (.lst [])) py (.lst []) q = none := hq
    clear hpf hpy hq
    show Ends.nx _ _ (upd (upd (upd (upd H1 pp (.lst (POOL.map V.str))) pf (.lst [])) py (.lst [])) q (.tup [.ref pp, .ref pf, .ref py]))
    generalize upd H1 pp (.lst (POOL.map V.str)) = A1 at f1 g1 hpf' hpy' hq'
    have f2 : Same A1 (upd A1 pf (.lst [])) := same_new same_rfl hpf'
    have g2 : upd A1 pf (.lst []) pf = some (.lst []) := upd_same
    generalize upd A1 pf (.lst []) = A2 at f2 g2 hpy' hq'
    have f3 : Same A2 (upd A2 py (.lst [])) := same_new same_rfl hpy'
    have g3 : upd A2 py (.lst []) py = some (.lst []) := upd_same
    generalize upd A2 py (.lst []) = A3 at f3 g3 hq'
    have f4 : Same A3 (upd A3 q (.tup [.ref pp, .ref pf, .ref py])) := same_new same_rfl hq'
    generalize upd A3 q (.tup [.ref pp, .ref pf, .ref py]) = A at f4
    have fA : Same H1 A := same_tr f1 (same_tr f2 (same_tr f3 f4))
    have DA := deck_same D1 fA
    have KA : Keep dk dl H A := K1.trans (same_keep fA)
    have ePP : A pp = some (.lst (POOL.map V.str)) := f4 _ _ (f3 _ _ (f2 _ _ g1))
    have ePF : A pf = some (.lst []) := f4 _ _ (f3 _ _ g2)
    have ePY : A py = some (.lst []) := f4 _ _ g3
    have nPP : H pp = none := hD.dom D1 K1 pp hpp
    have nPF : H pf = none := hD.dom D1 K1 pf (same_free f1 hpf')
    have nPY : H py = none := hD.dom D1 K1 py (same_free f1 (same_free f2 hpy'))
    obtain ⟨PPk, PPl⟩ := hD.off nPP
    obtain ⟨PFk, PFl⟩ := hD.off nPF
    obtain ⟨PYk, PYl⟩ := hD.off nPY
    have pfpp : pf ≠ pp := (ne_of_none g1 hpf').symm
    have pypp : py ≠ pp := (ne_of_none (f2 _ _ g1) hpy').symm
    have pypf : py ≠ pf := (ne_of_none g2 hpy').symm
    clear f1 f2 f3 f4 g1 g2 g3 hpp hpf' hpy' hq' fA A1 A2 A3 hD
    refine ⟨_, rfl, dk, dl, 4, t + 1, rfl, DA, by decide, by decide, by omega, by omega, fun c H2 c0 c1 D2 K2 => ?_⟩
    refine ⟨_, _, rfl, rfl, _, rfl, by omega, by omega, ?_⟩
    refine for_range (lo := 0) (n := (1 + c).toNat) (fun i σ H' => ∃ (ps : List Addr) (ks : List (Str × Int)) (Q' : List Str) (t' : Int) (o4 : Option V), σ = [some (.ref dk), some (.ref pp), some (.ref pf), some (.ref py), o4, none, none, none, none, none] ∧ H' pp = some (.lst (Q'.map V.str)) ∧ H' pf = some (.lst (ps.map V.ref)) ∧ H' py = some (.lst []) ∧ Paired (fun a p => SqT K H' a [.str p.1, .int p.2]) ps ks ∧ (ks.map (·.1) ++ Q').Perm POOL ∧ (∀ p ∈ ks, 1 ≤ p.2 ∧ p.2 ≤ 3) ∧ ks.length = i ∧ DeckAt H' dk dl t' ∧ t ≤ t' ∧ t' ≤ t + 2 + 2 * (i : Int) ∧ Keep dk dl H H')
      ⟨[], [], POOL, t + 1 + 1, none, rfl, K2 _ _ PPk PPl ePP, K2 _ _ PFk PFl ePF, K2 _ _ PYk PYl ePY, .nil, .refl _, (fun _ z => (List.not_mem_nil z).elim), rfl, D2, by omega, by omega, KA.trans K2⟩ ?_ ?_
    · rintro i σ H3 hi ⟨ps, ks, Q', t', o4, rfl, e1, e2, e3, pr, pm, num, kl, D3, ta, tb, K3⟩
      have i3 : (i : Int) ≤ 3 := by omega
      have ql : Q'.length = 11 - i ∧ i ≤ 4 := by
        have := pm.length_eq
        rw [List.length_append, List.length_map, kl] at this
        have : i + Q'.length = 11 := this
        omega
      refine ⟨_, rfl, .inl ⟨rfl, _, SqL.of e2⟩, ?_⟩
      refine ⟨_, rfl, .inl ⟨rfl, _, SqL.of e1⟩, _, rfl, _, rfl, pp, _, rfl, .inl (SqL.of e1), dk, dl, (Q'.length : Int), t', by rw [List.length_map]; rfl, D3, by omega, by omega, by omega, by omega, fun r H4 r0 r1 D4 K4 => ?_⟩
      have e14 := K4 _ _ PPk PPl e1
      have e24 := K4 _ _ PFk PFl e2
      have e34 := K4 _ _ PYk PYl e3
      have rl : r.toNat < Q'.length := by omega
      refine ⟨pp, _, r, r.toNat, .str Q'[r.toNat], rfl, rfl, e14, by omega, by omega, by rw [List.length_map]; exact seq_at r0 r1, by rw [List.getElem?_map, List.getElem?_eq_getElem rl]; rfl, ?_⟩
      rw [erase_map]
      have ktA : KTu K H4 (upd H4 pp (.lst ((Q'.eraseIdx r.toNat).map V.str))) := kt_lst e14
      have prA := paired_mono (fun a _ => ktA a _) (paired_mono (fun a _ => K4.kt D3 a _) pr)
      have D5 := D4.set (o := .lst ((Q'.eraseIdx r.toNat).map V.str)) PPk PPl
      have K5 : Keep dk dl H (upd H4 pp (.lst ((Q'.eraseIdx r.toNat).map V.str))) := keep_off (K3.trans K4) nPP
      have e15 : upd H4 pp (.lst ((Q'.eraseIdx r.toNat).map V.str)) pp = some (.lst ((Q'.eraseIdx r.toNat).map V.str)) := upd_same
      have e25 := (upd_ne (o := .lst ((Q'.eraseIdx r.toNat).map V.str)) pfpp).trans e24
      have e35 := (upd_ne (o := .lst ((Q'.eraseIdx r.toNat).map V.str)) pypp).trans e34
      have pm5 : ((ks.map (·.1) ++ [Q'[r.toNat]]) ++ Q'.eraseIdx r.toNat).Perm POOL := by
        rw [List.append_assoc]
        exact ((erase_perm _ _ rl).append_left _).trans pm
      have hy : Q'[r.toNat] ∈ Q' := List.getElem_mem rl
      generalize Q'[r.toNat] = yy at pm5 hy
      generalize Q'.eraseIdx r.toNat = Q5 at e15 e25 e35 D5 K5 prA pm5 ktA
      generalize upd H4 pp (.lst (Q5.map V.str)) = H5 at e15 e25 e35 D5 K5 prA ktA
      refine ⟨(by show 3 ≤ sizeLine; omega), fun l hl => ?_⟩
      have s6 : Same H5 (upd H5 l (.lst [.int 1, .int 2, .int 3])) := same_new same_rfl hl
      have el : upd H5 l (.lst [.int 1, .int 2, .int 3]) l = some (.lst [.int 1, .int 2, .int 3]) := upd_same
      have D6 := D5.new (o := .lst [.int 1, .int 2, .int 3]) hl
      obtain ⟨lk, ll⟩ := D5.off hl
      generalize upd H5 l (.lst [.int 1, .int 2, .int 3]) = H6 at s6 el D6
      refine ⟨_, rfl, dk, dl, 3, t' + 1, rfl, D6, by decide, by decide, by omega, by omega, fun r2 H7 r20 r21 D7 K7 => ?_⟩
      refine ⟨l, _, _, _, rfl, rfl, SqL.of (K7 _ _ lk ll el), at_three r20 r21, ?_⟩
      refine ⟨(by show 2 ≤ sizeLine; omega), fun q hq => ?_⟩
      have s8 : Same H7 (upd H7 q (.tup [.str yy, .int (1 + r2)])) := same_new same_rfl hq
      have eq : upd H7 q (.tup [.str yy, .int (1 + r2)]) q = some (.tup [.str yy, .int (1 + r2)]) := upd_same
      have D8 := D7.new (o := .tup [.str yy, .int (1 + r2)]) hq
      have e18 := s8 _ _ (K7 _ _ PPk PPl (s6 _ _ e15))
      have e28 := s8 _ _ (K7 _ _ PFk PFl (s6 _ _ e25))
      have e38 := s8 _ _ (K7 _ _ PYk PYl (s6 _ _ e35))
      have K8 : Keep dk dl H _ := (((K5.trans (same_keep s6)).trans K7).trans (same_keep s8))
      have kt8 : KTu K H5 _ := KTu.tr (kt_same s6) (KTu.tr (K7.kt D6) (kt_same s8))
      generalize upd H7 q (.tup [.str yy, .int (1 + r2)]) = H8 at s8 eq D8 e18 e28 e38 K8 kt8
      have kt9 : KTu K H8 (upd H8 pf (.lst (ps.map V.ref ++ [.ref q]))) := kt_lst e28
      refine ⟨pf, _, _, rfl, rfl, e28, by rw [List.length_map, pr.length]; omega, ?_⟩
      refine ⟨ps ++ [q], ks ++ [(yy, 1 + r2)], Q5, t' + 1 + 1, _, rfl, (upd_ne pfpp.symm).trans e18, ?_, (upd_ne pypf).trans e38, ?_, ?_, ?_, by rw [List.length_append, kl]; rfl, D8.set PFk PFl, by omega, by rw [Int.natCast_succ]; omega, keep_off K8 nPF⟩
      · rw [upd_same, List.map_append]
        rfl
      · exact paired_snoc (R := fun a (p : Str × Int) => SqT K _ a [.str p.1, .int p.2]) (b := (yy, 1 + r2)) (kt9 _ _ (SqT.of eq)) (paired_mono (fun a (p : Str × Int) => (kt8.tr kt9) a [.str p.1, .int p.2]) prA)
      · rw [List.map_append]
        exact pm5
      · intro p hp
        rcases List.mem_append.mp hp with hp | hp
        · exact num p hp
        · rw [List.mem_singleton.mp hp]
          exact ⟨by omega, by omega⟩
    rintro σ H3 ⟨ps, ks, Q', t', o4, rfl, e1, e2, e3, pr, pm, num, kl, D3, ta, tb, K3⟩
    have knd : (ks.map (·.1)).Nodup := by
      have : (ks.map (·.1) ++ Q').Nodup := pm.nodup_iff.mpr (by decide +kernel)
      exact (List.nodup_append.mp this).1
    have kl4 : 1 ≤ ks.length ∧ ks.length ≤ 4 := by omega
    have pl := pr.length
    have kww : ∀ p ∈ ks, p.1 ∈ WW := fun p hp => pool_ww _ (pm.mem_iff.mp (List.mem_append_left _ (List.mem_map_of_mem hp)))
    refine ⟨_, rfl, dk, dl, 5, t', rfl, D3, by decide, by decide, by omega, by omega, fun d H4 d0 d1 D4 K4 => ?_⟩
    refine ⟨_, rfl, by omega, by omega, ?_⟩
    refine for_range (lo := 0) (n := d.toNat) (fun j σ H' => ∃ (as : List Addr) (os : List Opn) (Q2 : List Str) (u : Int) (o4 o5 o6 o7 o8 : Option V), σ = [some (.ref dk), some (.ref pp), some (.ref pf), some (.ref py), o4, o5, o6, o7, o8, none] ∧ H' pp = some (.lst (Q2.map V.str)) ∧ H' pf = some (.lst (ps.map V.ref)) ∧ H' py = some (.lst (as.map V.ref)) ∧ Paired (fun a p => SqT K H' a [.str p.1, .int p.2]) ps ks ∧ Paired (OpnAt K H') as os ∧ (ks.map (·.1) ++ (os.map (·.w) ++ Q2)).Perm POOL ∧ (∀ o ∈ os, OpnFit ks o) ∧ os.length = j ∧ DeckAt H' dk dl u ∧ t' + 1 ≤ u ∧ u ≤ t' + 1 + 14 * (j : Int) ∧ Keep dk dl H H')
      ⟨[], [], Q', t' + 1, _, _, _, _, _, rfl, K4 _ _ PPk PPl e1, K4 _ _ PFk PFl e2, K4 _ _ PYk PYl e3, paired_mono (fun a (p : Str × Int) => K4.kt D3 a [.str p.1, .int p.2]) pr, .nil, by simpa using pm, (fun _ z => (List.not_mem_nil z).elim), rfl, D4, by omega, by omega, K3.trans K4⟩ ?_ ?_
    · rintro j σ H5 hj ⟨as, os, Q2, u, o4', o5, o6, o7, o8, rfl, g1, g2, g3, pr5, po5, pm5, fit, ol, D5, ua, ub, K5⟩
      have j3 : (j : Int) ≤ 3 := by omega
      have ql : Q2.length + (ks.length + os.length) = 11 := by
        have := pm5.length_eq
        rw [List.length_append, List.length_append, List.length_map, List.length_map] at this
        have : ks.length + (os.length + Q2.length) = 11 := this
        omega
      refine ⟨_, rfl, _, rfl, dk, dl, pf, u, ps.map V.ref, rfl, D5, PFl, g2, (fun z => by rw [List.map_eq_nil_iff] at z; rw [z] at pl; simp at pl; omega), by rw [List.length_map]; omega, by omega, by omega, fun y H6 hy D6 K6 => ?_⟩
      obtain ⟨a, ha, rfl⟩ := List.mem_map.mp hy
      obtain ⟨ia, hia⟩ := List.getElem?_of_mem ha
      obtain ⟨p, hp, hap⟩ := paired_at pr5 hia
      have mp := List.mem_of_getElem? hp
      obtain ⟨p1, p3⟩ := num p mp
      have ha6 := K6.kt D5 _ _ hap
      refine ⟨a, _, rfl, ha6, rfl, _, _, rfl, _, _, rfl, rfl, ?_⟩
      refine ⟨_, rfl, _, rfl, dk, dl, p.2, u + 1, rfl, D6, p1, by omega, by omega, by omega, fun g H7 ga gb D7 K7 => ?_⟩
      have K57 := K6.trans K7
      refine ⟨_, rfl, (by show 4 ≤ sizeLine; omega), fun l hl => ?_⟩
      have s8 : Same H7 (upd H7 l (.lst [.int 0, .int 1, .int 1, .int 2])) := same_new same_rfl hl
      have el : upd H7 l (.lst [.int 0, .int 1, .int 1, .int 2]) l = some (.lst [.int 0, .int 1, .int 1, .int 2]) := upd_same
      have D8 := D7.new (o := .lst [.int 0, .int 1, .int 1, .int 2]) hl
      obtain ⟨lk, ll⟩ := D7.off hl
      generalize upd H7 l (.lst [.int 0, .int 1, .int 1, .int 2]) = H8 at s8 el D8
      refine ⟨dk, dl, l, u + 1 + 1, _, rfl, D8, ll, el, by simp, by decide, by omega, by omega, fun y H9 hy9 D9 K9 => ?_⟩
      obtain ⟨c9, rfl, c90, c92⟩ : ∃ c9 : Int, y = .int c9 ∧ 0 ≤ c9 ∧ c9 ≤ 2 := by
        simp only [List.mem_cons, List.not_mem_nil, or_false] at hy9
        rcases hy9 with rfl | rfl | rfl | rfl
        · exact ⟨0, rfl, by decide, by decide⟩
        · exact ⟨1, rfl, by decide, by decide⟩
        · exact ⟨1, rfl, by decide, by decide⟩
        · exact ⟨2, rfl, by decide, by decide⟩
      have K59 := (K57.trans (same_keep s8)).trans K9
      have K0_9 := K5.trans K59
      have kt59 : KTu K H5 H9 := K59.kt D5
      have g19 := K59 _ _ PPk PPl g1
      have g29 := K59 _ _ PFk PFl g2
      have g39 := K59 _ _ PYk PYl g3
      have pr9 : Paired (fun a p => SqT K H9 a [.str p.1, .int p.2]) ps ks := paired_mono (fun a (p : Str × Int) => kt59 a [.str p.1, .int p.2]) pr5
      refine ⟨c9, rfl, by omega, by omega, fun E1 hE => ?_⟩
      have DE := D9.new (o := .lst []) hE
      obtain ⟨Ek, El⟩ := D9.off hE
      have nE : H E1 = none := DeckAt.dom' K0_9 hE Ek El
      have Epp : E1 ≠ pp := (ne_of_none g19 hE).symm
      have Epf : E1 ≠ pf := (ne_of_none g29 hE).symm
      have Epy : E1 ≠ py := (ne_of_none g39 hE).symm
      refine lc_range (lo := 0) (n := c9.toNat) (fun i H' => ∃ (bs : List Addr) (nn : List Nd) (v : Int), H' E1 = some (.lst (bs.map V.ref)) ∧ bs.length = i ∧ Paired (fun x n => SqT K H' x (ndV n)) bs nn ∧ (∀ n ∈ nn, NdOk p.2 ks n) ∧ DeckAt H' dk dl v ∧ u + 3 ≤ v ∧ v ≤ u + 3 + 4 * (i : Int) ∧ Keep dk dl H9 H')
        ⟨[], [], u + 1 + 1 + 1, upd_same, rfl, .nil, (fun _ z => (List.not_mem_nil z).elim), DE, by omega, by omega, Keep.refl.new hE⟩ ?_ ?_
      · rintro i HA hi ⟨bs, nn, v, eA, bl, pn, nok, DA', va, vb, KA'⟩
        refine ⟨rfl, ?_⟩
        unfold tYes
        dsimp only
        rw [if_pos rfl]
        refine ⟨_, rfl, _, rfl, _, rfl, dk, dl, pf, v, p.2, ps, ks, rfl, DA', PFl, KA' _ _ PFk PFl g29, paired_mono (fun a (p : Str × Int) => KA'.kt D9 a [.str p.1, .int p.2]) pr9, by omega, p1, p3, kww, by omega, by omega, fun x n v' HB DB vc vd KB hx hn => ?_⟩
        have eB := KB _ _ Ek El eA
        have ktC : KTu K HB (upd HB E1 (.lst (bs.map V.ref ++ [.ref x]))) := kt_lst eB
        refine ⟨_, eB, by rw [List.length_map]; omega, bs ++ [x], nn ++ [n], v', by rw [upd_same, List.map_append]; rfl, by rw [List.length_append, bl]; rfl, paired_snoc (R := fun x n => SqT K _ x (ndV n)) (ktC _ _ hx) (paired_mono (fun x (n : Nd) => KTu.tr (KB.kt DA') ktC x (ndV n)) pn), fun z hz => ?_, DB.set Ek El, by omega, by rw [Int.natCast_succ]; omega, keep_off (KA'.trans KB) hE⟩
        rcases List.mem_append.mp hz with hz | hz
        · exact nok z hz
        · rw [List.mem_singleton.mp hz]
          exact hn
      rintro HA ⟨bs, nn, v, eA, bl, pn, nok, DA', va, vb, KA'⟩
      refine ⟨E1, _, rfl, .inl ⟨SqL.of eA, fun nb hnb => ?_⟩⟩
      have sN : Same HA (upd HA nb (.tup (bs.map V.ref))) := same_new same_rfl hnb
      have eN : upd HA nb (.tup (bs.map V.ref)) nb = some (.tup (bs.map V.ref)) := upd_same
      have DN := deck_same DA' sN
      have KN : Keep dk dl H9 _ := KA'.trans (same_keep sN)
      show Ends.nx _ _ (upd HA nb (.tup (bs.map V.ref)))
      generalize upd HA nb (.tup (bs.map V.ref)) = HN at sN eN DN KN
      have bsl : bs.length ≤ 2 := by omega
      have K5N : Keep dk dl H5 HN := K59.trans KN
      have K0N := K5.trans K5N
      have ktN : KTu K H5 HN := K5N.kt D5
      have g1N := KN _ _ PPk PPl g19
      have g2N := KN _ _ PFk PFl g29
      have g3N := KN _ _ PYk PYl g39
      refine ⟨_, rfl, .inl ⟨rfl, _, SqL.of g3N⟩, _, rfl, .inl ⟨rfl, _, SqL.of g1N⟩, _, rfl, _, rfl, pp, _, rfl, .inl (SqL.of g1N), dk, dl, (Q2.length : Int), v, by rw [List.length_map]; rfl, DN, by omega, by omega, by omega, by omega, fun r HP r0 r1 DP KP => ?_⟩
      have e14 := KP _ _ PPk PPl g1N
      have e24 := KP _ _ PFk PFl g2N
      have e34 := KP _ _ PYk PYl g3N
      have rl : r.toNat < Q2.length := by omega
      refine ⟨pp, _, r, r.toNat, .str Q2[r.toNat], rfl, rfl, e14, by omega, by omega, by rw [List.length_map]; exact seq_at r0 r1, by rw [List.getElem?_map, List.getElem?_eq_getElem rl]; rfl, ?_⟩
      rw [erase_map]
      have ktA : KTu K HP (upd HP pp (.lst ((Q2.eraseIdx r.toNat).map V.str))) := kt_lst e14
      have DQ := DP.set (o := .lst ((Q2.eraseIdx r.toNat).map V.str)) PPk PPl
      have KQ : Keep dk dl H (upd HP pp (.lst ((Q2.eraseIdx r.toNat).map V.str))) := keep_off (K0N.trans KP) nPP
      have e15 : upd HP pp (.lst ((Q2.eraseIdx r.toNat).map V.str)) pp = some (.lst ((Q2.eraseIdx r.toNat).map V.str)) := upd_same
      have e25 := (upd_ne (o := .lst ((Q2.eraseIdx r.toNat).map V.str)) pfpp).trans e24
      have e35 := (upd_ne (o := .lst ((Q2.eraseIdx r.toNat).map V.str)) pypp).trans e34
      have pm6 : (ks.map (·.1) ++ ((os.map (·.w) ++ [Q2[r.toNat]]) ++ Q2.eraseIdx r.toNat)).Perm POOL := by
        rw [List.append_assoc (os.map (·.w))]
        exact (((erase_perm _ _ rl).append_left _).append_left _).trans pm5
      generalize Q2[r.toNat] = yy at pm6
      generalize Q2.eraseIdx r.toNat = Q5 at e15 e25 e35 DQ KQ pm6 ktA
      generalize upd HP pp (.lst (Q5.map V.str)) = HQ at e15 e25 e35 DQ KQ ktA
      refine ⟨_, rfl, _, rfl, _, rfl, (by show 4 ≤ sizeLine; omega), fun q hq => ?_⟩
      have s8' : Same HQ (upd HQ q (.tup [.str yy, .str p.1, .int g, .ref nb])) := same_new same_rfl hq
      have eq : upd HQ q (.tup [.str yy, .str p.1, .int g, .ref nb]) q = some (.tup [.str yy, .str p.1, .int g, .ref nb]) := upd_same
      have DR := DQ.new (o := .tup [.str yy, .str p.1, .int g, .ref nb]) hq
      have e18 := s8' _ _ e15
      have e28 := s8' _ _ e25
      have e38 := s8' _ _ e35
      have KR : Keep dk dl H _ := KQ.trans (same_keep s8')
      have ktNR : KTu K HN _ := KTu.tr (KP.kt DN) (KTu.tr ktA (kt_same s8'))
      generalize upd HQ q (.tup [.str yy, .str p.1, .int g, .ref nb]) = HR at s8' eq DR e18 e28 e38 KR ktNR
      have ktS : KTu K HR (upd HR py (.lst (as.map V.ref ++ [.ref q]))) := kt_lst e38
      have ktA2 : KTu K HA HN := kt_same sN
      have kt5S : KTu K H5 (upd HR py (.lst (as.map V.ref ++ [.ref q]))) := KTu.tr ktN (KTu.tr ktNR ktS)
      refine ⟨py, _, _, rfl, rfl, e38, by rw [List.length_map, po5.length]; omega, ?_⟩
      refine ⟨as ++ [q], os ++ [⟨yy, p.1, g, nn⟩], Q5, v + 1, _, _, _, _, _, rfl, (upd_ne pypp.symm).trans e18, (upd_ne pypf.symm).trans e28, ?_, paired_mono (fun a (p : Str × Int) => kt5S a [.str p.1, .int p.2]) pr5, ?_, ?_, ?_, by rw [List.length_append, ol]; rfl, DR.set PYk PYl, by omega, by rw [Int.natCast_succ]; omega, keep_off KR nPY⟩
      · rw [upd_same, List.map_append]
        rfl
      · have hn : ∀ (x : Addr) (n : Nd), SqT K HA x (ndV n) → SqT K (upd HR py (.lst (as.map V.ref ++ [.ref q]))) x (ndV n) := fun x n h => ktS _ _ (ktNR _ _ (ktA2 _ _ h))
        exact paired_snoc (R := OpnAt K _) (b := ⟨yy, p.1, g, nn⟩) ⟨nb, bs, ktS _ _ (SqT.of eq), ktS _ _ (ktNR _ _ (SqT.of eN)), paired_mono hn pn⟩ (paired_mono (fun a o ⟨b', as', h1, h2, h3⟩ => ⟨b', as', kt5S _ _ h1, kt5S _ _ h2, paired_mono (fun x (n : Nd) => kt5S x (ndV n)) h3⟩) po5)
      · rw [List.map_append]
        exact pm6
      · intro o ho
        rcases List.mem_append.mp ho with ho | ho
        · exact fit o ho
        · rw [List.mem_singleton.mp ho]
          exact ⟨p.2, mp, ga, gb, by have := pn.length; show nn.length ≤ 2; omega, nok⟩
    rintro σ H5 ⟨as, os, Q2, u, o4', o5, o6, o7, o8, rfl, g1, g2, g3, pr5, po5, pm5, fit, ol, D5, ua, ub, K5⟩
    have all : (ks.map (·.1) ++ os.map (·.w)).Nodup := by
      have : (ks.map (·.1) ++ (os.map (·.w) ++ Q2)).Nodup := pm5.nodup_iff.mpr (by decide +kernel)
      rw [← List.append_assoc] at this
      exact (List.nodup_append.mp this).1
    have oww : ∀ o ∈ os, o.w ∈ WW := fun o ho => pool_ww _ (pm5.mem_iff.mp (List.mem_append_right _ (List.mem_append_left _ (List.mem_map_of_mem ho))))
    obtain ⟨T1, rfl, rfl, h1⟩ := pairs_list pr5
    obtain ⟨T2, rfl, rfl, h2⟩ := pairs_list po5
    intro w hw
    obtain ⟨wk, wl⟩ := D5.off hw
    have nw : H w = none := DeckAt.dom' K5 hw wk wl
    have s1 : Same H5 (upd H5 w (.dK [])) := same_new same_rfl hw
    have ew : upd H5 w (.dK []) w = some (.dK []) := upd_same
    generalize upd H5 w (.dK []) = B0 at s1 ew
    have hd1 : ∀ {G : Hp}, KTu K H5 G → ∀ e ∈ T1.map (fun x => ((x.2.1, x.1) : Str × Addr)), ∃ r, SqT K G e.2 (.str e.1 :: r) := fun kt e he => by
      obtain ⟨x, hx, rfl⟩ := List.mem_map.mp he
      exact ⟨_, kt _ _ (h1 x hx)⟩
    have hd2 : ∀ {G : Hp}, KTu K H5 G → ∀ e ∈ T2.map (fun x => ((x.2.w, x.1) : Str × Addr)), ∃ r, SqT K G e.2 (.str e.1 :: r) := fun kt e he => by
      obtain ⟨x, hx, rfl⟩ := List.mem_map.mp he
      obtain ⟨b, as, z, _⟩ := h2 x hx
      exact ⟨_, kt _ _ z⟩
    have n1 : ((T1.map fun x => ((x.2.1, x.1) : Str × Addr)).map (·.1)).Nodup := by
      have := (List.nodup_append.mp all).1
      rw [List.map_map] at this ⊢
      exact this
    have n2 : ((T2.map fun x => ((x.2.w, x.1) : Str × Addr)).map (·.1)).Nodup := by
      have := (List.nodup_append.mp all).2.1
      rw [List.map_map] at this ⊢
      exact this
    refine ⟨_, rfl, pf, T1.map (fun x => (x.2.1, x.1)), rfl, SqL.of (by rw [s1 _ _ g2, List.map_map, List.map_map]; rfl), hd1 (kt_same s1), n1, fun es1 p1 pe1 as1 hp1 => ?_⟩
    obtain ⟨S1, q1, rfl⟩ := perm_map pe1.symm (f := fun x : Addr × (Str × Int) => ((x.2.1, x.1) : Str × Addr)) (es := T1) rfl
    have s2 : Same B0 (upd B0 p1 (.lst ((S1.map fun x => ((x.2.1, x.1) : Str × Addr)).map fun e => V.ref e.2))) := same_new same_rfl hp1
    have e2 : upd B0 p1 (.lst ((S1.map fun x => ((x.2.1, x.1) : Str × Addr)).map fun e => V.ref e.2)) p1 = some (.lst ((S1.map (·.1)).map V.ref)) := by rw [upd_same, List.map_map, List.map_map]; rfl
    generalize upd B0 p1 (.lst ((S1.map fun x => ((x.2.1, x.1) : Str × Addr)).map fun e => V.ref e.2)) = B1 at s2 e2
    refine ⟨p1, _, rfl, SqL.of e2, fun l ob hl ho => ?_⟩
    have s3 : Same B1 (upd B1 l (.frz ob (.tup ((S1.map (·.1)).map V.ref)))) := same_new same_rfl hl
    have e3 : upd B1 l (.frz ob (.tup ((S1.map (·.1)).map V.ref))) l = some (.frz ob (.tup ((S1.map (·.1)).map V.ref))) := upd_same
    generalize upd B1 l (.frz ob (.tup ((S1.map (·.1)).map V.ref))) = B2 at s3 e3
    have s53 := same_tr s1 (same_tr s2 s3)
    refine ⟨_, rfl, py, T2.map (fun x => (x.2.w, x.1)), rfl, SqL.of (by rw [s53 _ _ g3, List.map_map, List.map_map]; rfl), hd2 (kt_same s53), n2, fun es2 p2 pe2 as2 hp2 => ?_⟩
    obtain ⟨S2, q2, rfl⟩ := perm_map pe2.symm (f := fun x : Addr × Opn => ((x.2.w, x.1) : Str × Addr)) (es := T2) rfl
    have s4 : Same B2 (upd B2 p2 (.lst ((S2.map fun x => ((x.2.w, x.1) : Str × Addr)).map fun e => V.ref e.2))) := same_new same_rfl hp2
    have e4 : upd B2 p2 (.lst ((S2.map fun x => ((x.2.w, x.1) : Str × Addr)).map fun e => V.ref e.2)) p2 = some (.lst ((S2.map (·.1)).map V.ref)) := by rw [upd_same, List.map_map, List.map_map]; rfl
    generalize upd B2 p2 (.lst ((S2.map fun x => ((x.2.w, x.1) : Str × Addr)).map fun e => V.ref e.2)) = B3 at s4 e4
    refine ⟨p2, _, rfl, SqL.of e4, fun l2 ob2 hl2 ho2 => ?_⟩
    have s5 : Same B3 (upd B3 l2 (.frz ob2 (.tup ((S2.map (·.1)).map V.ref)))) := same_new same_rfl hl2
    have e5 : upd B3 l2 (.frz ob2 (.tup ((S2.map (·.1)).map V.ref))) l2 = some (.frz ob2 (.tup ((S2.map (·.1)).map V.ref))) := upd_same
    generalize upd B3 l2 (.frz ob2 (.tup ((S2.map (·.1)).map V.ref))) = B4 at s5 e5
    have s04 : Same B0 B4 := same_tr s2 (same_tr s3 (same_tr s4 s5))
    have ew4 := s04 _ _ ew
    refine ⟨ew4, worldD l l2, rfl, (by show 2 ≤ 15; decide), ?_⟩
    rw [wMerged]
    have s54 : Same H5 B4 := same_tr s1 s04
    have ktL : KTu K H5 (upd B4 w (.dK (worldD l l2))) := KTu.tr (kt_same s54) (kt_dk ew4)
    have e3' : upd B4 w (.dK (worldD l l2)) l = some (.frz ob (.tup ((S1.map (·.1)).map V.ref))) := by
      have z := s5 _ _ (s4 _ _ e3)
      exact (upd_ne (ne_of z ew4 (by intro y; cases y))).trans z
    have e5' : upd B4 w (.dK (worldD l l2)) l2 = some (.frz ob2 (.tup ((S2.map (·.1)).map V.ref))) := (upd_ne (ne_of e5 ew4 (by intro y; cases y))).trans e5
    have km : ∀ p, p ∈ S1.map (·.2) ↔ p ∈ T1.map (·.2) := fun p => (q1.map _).mem_iff
    have om : ∀ o, o ∈ S2.map (·.2) → o ∈ T2.map (·.2) := fun o ho => (q2.map _).mem_iff.mp ho
    have a1 : (S1.map fun x => x.2.1).Pairwise LtT := by
      rw [List.map_map] at as1
      exact as1
    have a2 : (S2.map fun x => x.2.w).Pairwise LtT := by
      rw [List.map_map] at as2
      exact as2
    refine k w (S1.map (·.2)) (S2.map (·.2)) u _ ((deck_same D5 s54).set wk wl) (by omega) (by omega) (keep_off (K5.trans (same_keep s54)) nw) ⟨⟨l, l2, S1.map (·.1), S2.map (·.1), upd_same, ⟨.inl ⟨ob, e3', ho⟩, list_pairs (R := fun a (p : Str × Int) => SqT K _ a [.str p.1, .int p.2]) fun x hx => ktL _ _ (h1 x (q1.mem_iff.mp hx))⟩, ⟨.inl (.inr ⟨ob2, e5'⟩), list_pairs fun x hx => ?_⟩⟩, ⟨fun z => ?_, fun p hp => kww p ((km p).mp hp), fun p hp => num p ((km p).mp hp), asc_of (by rw [List.map_map]; exact a1), ?_, ?_⟩, ⟨fun o ho => ?_, asc_of (by rw [List.map_map]; exact a2), ?_⟩⟩
    · obtain ⟨b, bs, z1, z2, z3⟩ := h2 x (q2.mem_iff.mp hx)
      exact ⟨b, bs, ktL _ _ z1, ktL _ _ z2, paired_mono (fun a (n : Nd) => ktL a (ndV n)) z3⟩
    · have z1 : S1 = [] := List.map_eq_nil_iff.mp z
      have z2 := q1.length_eq
      have kl6 := kl4.1
      clear kl4
      rw [z1] at z2
      simp only [List.length_map, List.length_nil] at kl6 z2
      omega
    · exact ((q1.map _).map _).nodup_iff.mpr knd
    · have ql := q1.length_eq
      have kl6 := kl4.1
      have kl5 := kl4.2
      clear kl4
      simp only [List.length_map] at kl5 kl6 ⊢
      omega
    · obtain ⟨m, fm, f0, f1, f2, f3⟩ := fit o (om o ho)
      refine ⟨oww o (om o ho), fun z => ?_, m, (km _).mpr fm, f0, f1, f2, fun n hn => ?_⟩
      · have z' : o.w ∈ (T1.map (·.2)).map (·.1) := ((q1.map _).map _).mem_iff.mp z
        exact (List.nodup_append.mp all).2.2 _ z' _ (List.mem_map_of_mem (om o ho)) rfl
      · have := f3 n hn
        cases n with
        | part j => exact this
        | around cc j => exact ⟨(km _).mpr this.1, this.2⟩
        | inside j cc => exact ⟨(km _).mpr this.1, this.2⟩
    · rw [List.length_map, q2.length_eq]
      rw [List.length_map] at ol
      omega
end
end K15


set_option Elab.async false
set_option linter.all false
set_option maxRecDepth 100000
set_option maxHeartbeats 1000000
namespace K15
open PySem PySem.Spec PyProof.Rows L2 Mine TL StX SkE
/-! A drawn thing. -/
def cB : Nat → Nat
  | 0 => 1
  | n + 1 => 2 + 3 * cB n
def sB : Nat → Nat
  | 0 => 1
  | n + 1 => 1 + 3 * sB n
theorem cB1 : ∀ n, 1 ≤ cB n
  | 0 => Nat.le_refl _
  | n + 1 => by simp only [cB]; omega
theorem sB1 : ∀ n, 1 ≤ sB n
  | 0 => Nat.le_refl _
  | n + 1 => by simp only [sB]; omega
theorem cB3 : ∀ m ≤ 3, cB m ≤ 1000 := by decide
abbrev sItem : Stmt := top 23
def spItem (K : PySem.W.Frag) (n : Nat) : Sp := fun vs H Q _ => ∃ (dk dl wd : Addr) (t : Int) (ks : List (Str × Int)) (os : List Opn), vs = [.ref dk, .ref wd, .int (n : Int)] ∧ DeckAt H dk dl t ∧ WorldAt K H wd ks os ∧ 0 ≤ t ∧ t + (cB n : Nat) ≤ 90000 ∧ n ≤ 4 ∧
  ∀ (v : V) (d : PyData) (t' : Int) (H' : Hp), DeckAt H' dk dl t' → t ≤ t' → t' ≤ t + (cB n : Nat) → Keep dk dl H H' → Dp K H' v d → ItK ks d → sz d ≤ sB n → Q v H'
def IV7 : List Str := [lsS "K", lsS "M", lsS "Nx9", lsS "K", lsS "a", lsS "b", lsS "word"]
theorem iv7 : ∀ x ∈ IV7, x ∈ IV := by decide +kernel
section
variable {P : Program} {w : World} {K : PySem.W.Frag} {mg : Str → Option Value} {base : Heap}
abbrev nItem : List Str := ["_law_deck_here", "_law_w", "_law_deep", "_law_label", "_law_many", "_law_k"]
theorem scItem : FnScope nItem ["_law_deck_here", "_law_w", "_law_deep"] (defScope sItem) := ⟨rfl, rfl, rfl, by decide +kernel, rfl, by decide +kernel, by decide +kernel⟩
theorem ok_Item {n j : Nat} {sp' : Sp} (hj : 2 ≤ j) (hG : ∀ m, n = m + 1 → ∀ vs H Q E, spItem K m vs H Q E → sp' vs H Q E) {f : Addr} {fd : FuncData} (F : Fun K "_law_item" "_law_item" sItem f fd) (B : Bi mg) (u_draw : Use P w K mg base 1 "_law_draw" ["_law_deck_here", "_law_many"] spDraw) (u_pick : Use P w K mg base 2 "_law_pick" ["_law_deck_here", "_law_some"] (spPickA K)) (u_item : Use P w K mg base j "_law_item" ["_law_deck_here", "_law_w", "_law_deep"] sp') : FnOk P w K mg base CX0 (j + 1) f fd ["_law_deck_here", "_law_w", "_law_deep"] (spItem K n) := by
  refine F.ok scItem (fun vs H Q E h => ?_) (fun cdv A outer s H vs Q E hr h => ?_)
  · obtain ⟨dk, dl, wd, t, ks, os, rfl, _⟩ := h
    rfl
  · obtain ⟨dk, dl, wd, t, ks, os, rfl, hD, hW, t0, t1, n4, k⟩ := h
    have line : sizeLine = 16777216 := sizeLine_eq
    refine ⟨_, (pss_cons (ps_if (PW.pt (pw_or (pt_cmpR op_eq (pv 2) pe_int (nomark _)) (pw_or1 (pt_cmpR op_eq (pe_use u_draw (hr.mono (by omega)) rfl (pa_cons (pv 0) (pa_cons pe_int pa_nil))) pe_int (nomark _))))) (pss_one (ps_ret (pe_use u_pick (hr.mono (by omega)) rfl (pa_cons (pv 0) (pa_cons (pe_lst (pa_cons pe_str (pa_cons pe_str (pa_cons pe_str (pa_cons pe_str (pa_cons pe_str (pa_cons pe_str (pa_cons pe_str pa_nil)))))))) pa_nil))))) pss_nil)
      (pss_cons (ps_asg (pe_use u_pick (hr.mono (by omega)) rfl (pa_cons (pv 0) (pa_cons (pe_dget (hu_of hr) (pv 1) pe_str (fun _ _ => rfl)) pa_nil))) (pg_tup rfl (pgs_cons (pg_name (i := 3) scItem.nd rfl (Or.inl rfl)) (pgs_cons (pg_name (i := 4) scItem.nd rfl (Or.inl rfl)) pgs_nil))))
      (pss_one (ps_ret (pe_op op_catT (pe_tup (pa_cons (pv 3) pa_nil)) (pe_callTy call_tuple_of (by rfl) B.tuple (by decide +kernel) (pa_cons (pe_lc (own := [("_law_k", 5)]) (g := (gName 5)) (tt := tYes) rfl scItem.nd (pi_range1 rfl B.range (pa_cons (pv 4) pa_nil)) (blkOk_by (own := [("_law_k", 5)]) (N := nItem) (sc := defScope sItem) (by decide +kernel)) (fun _ _ _ _ _ => (pg_name (i := 5) scItem.nd rfl (Or.inl rfl))) (fun _ _ _ _ _ => pts_nil) (fun _ _ _ _ _ => (pe_use u_item (hr.mono (by omega)) rfl (pa_cons (pv 0) (pa_cons (pv 1) (pa_cons (pe_op op_sub (pv 2) pe_int) pa_nil)))))) pa_nil))))))), ?_⟩
    have c1 := cB1 n
    have z1 := sB1 n
    have go : ∀ (t1 : Int) (H1 : Hp), DeckAt H1 dk dl t1 → t ≤ t1 → t1 + 1 ≤ t + (cB n : Nat) → t1 ≤ t + 1 → Keep dk dl H H1 → ∀ p, H1 p = none → ∀ H2, Same H1 H2 → H2 p = some (.lst (IV7.map V.str)) → spPickA K [.ref dk, .ref p] H2 Q E0 := fun t1 H1 D1 a b c K1 p hp H2 s2 e2 => by
      refine .inl ⟨dk, dl, p, t1, _, rfl, deck_same D1 s2, (D1.off hp).2, e2, by decide, by decide, by omega, by omega, fun y H3 hy D3 K3 => ?_⟩
      obtain ⟨c, hc, rfl⟩ := List.mem_map.mp hy
      exact k _ (.str c) _ H3 D3 (by omega) (by omega) ((K1.trans (same_keep s2)).trans K3) (.str _) (ItK.str (iv7 c hc)) (by rw [sz_str]; exact z1)
    refine ⟨_, rfl, rfl, _, rfl, ite2 (fun hb => ?_) (fun hb => ?_)⟩
    · refine iteT ⟨_, rfl, (by show 7 ≤ sizeLine; omega), fun p hp => ?_⟩
      first | generalize hGp : upd _ p _ = H1 | (show Ends.nx _ _ (upd _ p _); generalize hGp : upd _ p _ = H1)
      have s1 := same_of_upd hp hGp
      have e1 := at_of_upd hGp
      exact go t H hD (by omega) (by omega) (by omega) Keep.refl p hp H1 s1 e1
    · obtain ⟨m, rfl⟩ : ∃ m, n = m + 1 := by
        cases n with
        | zero => exact absurd rfl hb
        | succ m => exact ⟨m, rfl⟩
      have c2 : cB (m + 1) = 2 + 3 * cB m := rfl
      have c3 := cB1 m
      refine ⟨_, rfl, dk, dl, 3, t, rfl, hD, by decide, by decide, by omega, by omega, fun r H1 r0 r1 D1 K1 => ⟨rfl, _, rfl, ite2 (fun hb => ?_) (fun hb => ?_)⟩⟩
      · refine ⟨_, rfl, (by show 7 ≤ sizeLine; omega), fun p hp => ?_⟩
        first | generalize hGp : upd _ p _ = H2 | (show Ends.nx _ _ (upd _ p _); generalize hGp : upd _ p _ = H2)
        have s2 := same_of_upd hp hGp
        have e2 := at_of_upd hGp
        exact go _ H1 D1 (by omega) (by omega) (by omega) K1 p hp H2 s2 e2
      · have W1 := hW.keep hD K1
        obtain ⟨ws, wy, ps, as, e1, h1, h2⟩ := W1.ex
        have kl := h1.len
        have kn := W1.kok.len
        have kne : ps ≠ [] := fun z => W1.kok.ne (List.length_eq_zero_iff.mp (by rw [← kl, z]; rfl))
        refine ⟨_, rfl, _, rfl, wd, _, rfl, gS e1, .inr ⟨dk, dl, ws, t + 1, _, rfl, D1, TupN.sq h1.at_, by simpa using kne, by rw [List.length_map]; omega, by omega, by omega, fun y H2 hy D2 K2 => ?_⟩⟩
        obtain ⟨a, ha, rfl⟩ := List.mem_map.mp hy
        obtain ⟨i, hi⟩ := List.getElem?_of_mem ha
        obtain ⟨p, hp, ap⟩ := paired_at h1.each hi
        have mp := List.mem_of_getElem? hp
        obtain ⟨p1, p3⟩ := W1.kok.num p mp
        have KH2 := K1.trans K2
        refine ⟨a, _, rfl, K2.kt D1 _ _ ap, rfl, _, _, rfl, _, _, rfl, rfl, ?_⟩
        refine ⟨_, rfl, (by show 1 ≤ sizeLine; omega), fun q hq => ?_⟩
        first | generalize hGq : upd _ q _ = H3 | (show Ends.nx _ _ (upd _ q _); generalize hGq : upd _ q _ = H3)
        have s3 := same_of_upd hq hGq
        have e3 := at_of_upd hGq
        have D3 := deck_same D2 s3
        have KH3 := KH2.trans (same_keep s3)
        have W3 := hW.keep hD KH3
        refine ⟨_, rfl, p.2, rfl, by omega, by omega, fun D hDn => ?_⟩
        have DD := D3.off hDn
        refine lc_range (lo := 0) (n := p.2.toNat) (fun i H' => ∃ (vs : List V) (ds : List PyData) (t' : Int), H' D = some (.lst vs) ∧ vs.length = i ∧ DpAll K H' vs ds ∧ (∀ d ∈ ds, ItK ks d) ∧ (ds.map sz).sum ≤ i * sB m ∧ DeckAt H' dk dl t' ∧ t + 2 ≤ t' ∧ t' ≤ t + 2 + (i : Int) * (cB m : Nat) ∧ Keep dk dl H3 H') ?_ ?_ ?_
        · exact ⟨[], [], t + 1 + 1, upd_same, rfl, .nil, (fun _ z => (List.not_mem_nil z).elim), by simp, D3.new hDn, by omega, by simp; omega, Keep.refl.new hDn⟩
        · rintro i HA hi ⟨vs, ds, t', eD, vl, hds, its, sl, DA, ta, tb, KA⟩
          have i3 : i < 3 := by omega
          have c4 : cB m ≤ 1000 := cB3 m (by omega)
          have mul : (i : Int) * (cB m : Nat) ≤ 2 * (cB m : Nat) := Int.mul_le_mul_of_nonneg_right (by omega) (by omega)
          refine ⟨rfl, ?_⟩
          unfold tYes
          dsimp only
          rw [if_pos rfl]
          refine ⟨_, rfl, _, rfl, _, rfl, _, _, rfl, rfl, hG m rfl _ _ _ _ ⟨dk, dl, wd, t', ks, os, by dsimp only; rw [show ((m + 1 : Nat) : Int) - 1 = (m : Int) by omega], DA, W3.keep D3 KA, by omega, by omega, by omega, fun v d t2 HB DB tc td KB hv hit hsz => ?_⟩⟩
          have eB := KB _ _ DD.1 DD.2 eD
          refine ⟨_, eB, by omega, vs ++ [v], ds ++ [d], t2, upd_same, by rw [List.length_append, vl]; rfl, ?_, ?_, ?_, DB.set DD.1 DD.2, by omega, ?_, keep_off (KA.trans KB) hDn⟩
          · exact dps_app (its_kt (KTu.tr (kt_keep DA KB) (kt_lst eB)) its hds) (.cons (th_kt (kt_lst eB) d v hit.th hv) .nil)
          · intro d' hd'
            rcases List.mem_append.mp hd' with h | h
            · exact its _ h
            · rw [List.mem_singleton.mp h]
              exact hit
          · rw [List.map_append, List.sum_append, Nat.succ_mul]
            simp only [List.map_cons, List.map_nil, List.sum_cons, List.sum_nil]
            omega
          · have e : ((i + 1 : Nat) : Int) * (cB m : Nat) = (i : Int) * (cB m : Nat) + (cB m : Nat) := by
              rw [Int.natCast_succ, Int.add_mul]
              omega
            rw [e]
            omega
        · rintro HA ⟨vs, ds, t', eD, vl, hds, its, sl, DA, ta, tb, KA⟩
          refine ⟨D, vs, rfl, .inl ⟨SqL.of eD, fun u hu => ?_⟩⟩
          first | generalize hGu : upd _ u _ = HB | (show Ends.nx _ _ (upd _ u _); generalize hGu : upd _ u _ = HB)
          have sB' := same_of_upd hu hGu
          have eB := at_of_upd hGu
          have hds' := its_kt (kt_same sB') its hds
          have qB := sB' _ _ (KA _ _ ((DeckAt.off D2 hq).1) ((DeckAt.off D2 hq).2) e3)
          have dl1 := dps_len hds
          have vne : vs ≠ [] := fun z => by
            rw [z] at vl
            simp only [List.length_nil] at vl
            omega
          have dne : ds ≠ [] := fun z => by
            rw [z] at dl1
            exact vne (List.length_eq_zero_iff.mp (by simpa using dl1))
          refine ⟨q, u, [.str p.1], vs, rfl, rfl, SqT.of qB, SqT.of eB, by simp, by simp only [List.length_cons, List.length_nil]; omega, (fun z => absurd z vne), fun _ r6 hr6 => ?_⟩
          first | generalize hGr6 : upd _ r6 _ = HC | (show Ends.nx _ _ (upd _ r6 _); generalize hGr6 : upd _ r6 _ = HC)
          have sC := same_of_upd hr6 hGr6
          have eC := at_of_upd hGr6
          have lenI : ((ds.length : Nat) : Int) = p.2 := by omega
          have c5 : (p.2.toNat : Int) * (cB m : Nat) ≤ 3 * (cB m : Nat) := Int.mul_le_mul_of_nonneg_right (by omega) (by omega)
          have s5 : p.2.toNat * sB m ≤ 3 * sB m := Nat.mul_le_mul_right _ (by omega)
          refine k _ (.tuple (.str p.1 :: ds)) t' HC (deck_same (deck_same DA sB') sC) (by omega) (by rw [c2]; omega) (KH3.trans (KA.trans (same_keep (same_tr sB' sC)))) (.tup (SqT.of eC) (.cons (.str _) (its_kt (kt_same sC) its hds'))) (ItK.tup (by rw [lenI]; exact mp) (W1.kok.ww p mp) dne its) ?_
          rw [sz_tup]
          show _ ≤ 1 + 3 * sB m
          omega
end
end K15


set_option Elab.async false
set_option linter.all false
set_option maxRecDepth 100000
set_option maxHeartbeats 1000000
namespace K15
open PySem PySem.Spec PyProof.Rows L2 Mine TL StX SkE
/-! What openings want; the openings at a thing; the pieces of a thing. -/
abbrev sWants : Stmt := top 24
def spWants (K : PySem.W.Frag) : Sp := fun vs H Q _ => ∃ (w0 : V) (a : Addr) (v : V) (o : Opn) (c : Str) (ds : List PyData) (m : Int) (ks : List (Str × Int)), vs = [w0, .ref a, v] ∧ OpnAt K H a o ∧ Dp K H v (.tuple (.str c :: ds)) ∧ ItK ks (.tuple (.str c :: ds)) ∧ (ds.length : Int) = m ∧ (∀ n ∈ o.nn, NdOk m ks n) ∧ o.nn.length ≤ 2 ∧ (∀ p ∈ ks, p.1 ∈ KWd) ∧
  (∀ (l : List PyData) (p : Addr) (us : List V) (H' : Hp), wantsD o ds = some l → Same H H' → H p = none → H' p = some (.lst us) → DpAll K H' us l → Q (.ref p) H') ∧ (∀ H', wantsD o ds = none → Same H H' → Q .non H')
abbrev sWaysAt : Stmt := top 25
def spWays (K : PySem.W.Frag) : Sp := fun vs H Q _ => ∃ (wd : Addr) (v : V) (ks : List (Str × Int)) (os : List Opn) (d : PyData), vs = [.ref wd, v] ∧ WorldAt K H wd ks os ∧ Dp K H v d ∧ ItK ks d ∧
  ∀ (p : Addr) (as : List Addr) (H' : Hp), Same H H' → H p = none → H' p = some (.lst (as.map V.ref)) → Paired (OpnAt K H') as (waysAt os d) → Q (.ref p) H'
abbrev sInner : Stmt := top 26
def spInner (K : PySem.W.Frag) (n : Nat) : Sp := fun vs H Q _ => ∃ v d, vs = [v] ∧ Dp K H v d ∧ thing d = true ∧ PyData.depth d ≤ n ∧ sz d ≤ 4000 ∧ ∀ (p : Addr) (us : List V) (H' : Hp), Same H H' → H p = none → H' p = some (.lst us) → DpAll K H' us (lot d) → Q (.ref p) H'
section
variable {P : Program} {w : World} {K : PySem.W.Frag} {mg : Str → Option Value} {base : Heap}
abbrev nWants : List Str := ["_law_w", "_law_way", "_law_it", "_law_found", "_law_need_here"]
theorem scWants : FnScope nWants ["_law_w", "_law_way", "_law_it"] (defScope sWants) := ⟨rfl, rfl, rfl, by decide +kernel, rfl, by decide +kernel, by decide +kernel⟩
theorem ok_Wants  {f : Addr} {fd : FuncData} (F : Fun K "_law_wants" "_law_wants" sWants f fd) (B : Bi mg) : FnOk P w K mg base CX0 (1) f fd ["_law_w", "_law_way", "_law_it"] (spWants K) := by
  refine F.ok scWants (fun vs H Q E h => ?_) (fun cdv A outer s H vs Q E hr h => ?_)
  · obtain ⟨w0, a, v, o, c, ds, m, ks, rfl, _⟩ := h
    rfl
  · obtain ⟨w0, a, v, o, c, ds, m, ks, rfl, hO, hd, hit, hm, hn, nl, kv, kS, kN⟩ := h
    have line : sizeLine = 16777216 := sizeLine_eq
    refine ⟨_, (pss_cons (ps_set (i := 3) scWants.nd rfl (.inl rfl) (pe_lst pa_nil))
      (pss_cons (ps_for PassesOwn.never rfl (pi_tup (pe_ix ix_tup (pv 1) pe_int (fun _ _ => rfl))) (pg_name (i := 4) scWants.nd rfl (Or.inl rfl))
        (pss_one (ps_if (pt_cmpR op_eq (pe_ix ix_tup (pv 4) pe_int (fun _ _ => rfl)) pe_str (nomark _)) (pss_one (ps_expr (pe_bm PySem.F.plainAttrs_list PySem.F.slot_list_append PySem.F.type_list_append mt_append (pv 3) (pa_cons (pe_ix ix_tup (pv 2) (pe_op op_add pe_int (pe_ix ix_tup (pv 4) pe_int (fun _ _ => rfl))) (fun _ _ => rfl)) pa_nil)))) (pss_one (ps_if (pt_cmpR op_eq (pe_ix ix_tup (pv 4) pe_int (fun _ _ => rfl)) pe_str (nomark _)) (pss_one (ps_expr (pe_bm PySem.F.plainAttrs_list PySem.F.slot_list_append PySem.F.type_list_append mt_append (pv 3) (pa_cons (pe_tup (pa_cons (pe_ix ix_tup (pv 4) pe_int (fun _ _ => rfl)) (pa_cons (pe_ix ix_tup (pv 2) (pe_op op_add pe_int (pe_ix ix_tup (pv 4) pe_int (fun _ _ => rfl))) (fun _ _ => rfl)) pa_nil))) pa_nil)))) (pss_one (ps_if (PW.pt (pw_or (pt_val (pe_callB call_isi (by rfl) B.isinstance (by decide +kernel) (pa_cons (pe_ix ix_tup (pv 2) (pe_op op_add pe_int (pe_ix ix_tup (pv 4) pe_int (fun _ _ => rfl))) (fun _ _ => rfl)) (pa_cons (pe_bltn (v := .ty "str") rfl B.str (by decide +kernel) rfl) pa_nil)))) (pw_or1 (pt_cmpR op_ne (pe_ix ix_tup (pe_ix ix_tup (pv 2) (pe_op op_add pe_int (pe_ix ix_tup (pv 4) pe_int (fun _ _ => rfl))) (fun _ _ => rfl)) pe_int (fun _ _ => rfl)) (pe_ix ix_tup (pv 4) pe_int (fun _ _ => rfl)) (nomark _))))) (pss_one (ps_ret pe_non)) (pss_one (ps_expr (pe_bm PySem.F.plainAttrs_list PySem.F.slot_list_append PySem.F.type_list_append mt_append (pv 3) (pa_cons (pe_ix ix_tup (pe_ix ix_tup (pv 2) (pe_op op_add pe_int (pe_ix ix_tup (pv 4) pe_int (fun _ _ => rfl))) (fun _ _ => rfl)) pe_int (fun _ _ => rfl)) pa_nil)))))))))))
      (pss_one (ps_ret (pv 3))))), ?_⟩
    obtain ⟨b, as, h1, h2, h3⟩ := hO
    obtain ⟨th, ws, rfl, ht, hws⟩ : ∃ th ws, v = .ref th ∧ SqT K H th (.str c :: ws) ∧ DpAll K H ws ds := by
      cases hd with
      | tup e r =>
        cases r with
        | cons x y =>
          cases x
          exact ⟨_, _, rfl, e, y⟩
    have its := hit.kid.2.2
    refine ⟨Nat.zero_le _, fun fl hfl => ?_⟩
    first | generalize hGfl : upd _ fl _ = H0 | (show Ends.nx _ _ (upd _ fl _); generalize hGfl : upd _ fl _ = H0)
    have s0 := same_of_upd hfl hGfl
    have e0 := at_of_upd hGfl
    have al := h3.length
    refine ⟨_, rfl, a, _, _, _, rfl, rfl, kt_same s0 _ _ h1, rfl, b, rfl, ⟨_, kt_same s0 _ _ h2⟩, ?_⟩
    refine for_tup (K := K) (a := b) (xs := as.map V.ref) (fun i σ H' => ∃ (us : List V) (l : List PyData) (o4 : Option V), σ = [some w0, some (.ref a), some (.ref th), some (.ref fl), o4] ∧ H' fl = some (.lst us) ∧ us.length = i ∧ DpAll K H' us l ∧ allSome ((o.nn.take i).map fun n => wantD n ds) = some l ∧ Same H H')
      ⟨[], [], none, rfl, e0, rfl, .nil, rfl, s0⟩ (fun i σ H' _ ⟨_, _, _, _, _, _, _, _, z⟩ => kt_same z _ _ h2) ?_ ?_
    · rintro i y σ H1 hi ⟨us, l, o4, rfl, e1, ul, hus, hl, s1⟩
      rw [List.getElem?_map] at hi
      obtain ⟨x, hx, rfl⟩ := Option.map_eq_some_iff.mp hi
      obtain ⟨n, hnn, hxn⟩ := paired_at h3 hx
      have mn := List.mem_of_getElem? hnn
      have il : i < as.length := (List.getElem?_eq_some_iff.mp hx).1
      have hxn1 := kt_same s1 _ _ hxn
      have ht1 := kt_same s1 _ _ ht
      have hws1 := its_kt (kt_same s1) its hws
      have wls : ∀ d ∈ l, ItK ks d := wants_it kv its (fun n hn' => hn n (List.mem_of_mem_take hn')) hl
      have fin : ∀ (H2 : Hp) (v : V) (d : PyData), Same H1 H2 → Dp K H2 v d → wantD n ds = some d → ∃ (us' : List V) (l' : List PyData), H2 fl = some (.lst us) ∧ us.length < sizeLine ∧ (upd H2 fl (.lst (us ++ [v]))) fl = some (.lst us') ∧ us'.length = i + 1 ∧ DpAll K (upd H2 fl (.lst (us ++ [v]))) us' l' ∧ allSome ((o.nn.take (i + 1)).map fun n => wantD n ds) = some l' ∧ Same H (upd H2 fl (.lst (us ++ [v]))) := fun H2 v d s2 dv ew => by
        have e2 := s2 _ _ e1
        have it1 := want_it0 kv its (hn n mn) ew
        refine ⟨us ++ [v], l ++ [d], e2, by omega, upd_same, by rw [List.length_append, ul]; rfl, ?_, ?_, same_off (same_tr s1 s2) hfl⟩
        · exact dps_app (its_kt (KTu.tr (kt_same s2) (kt_lst e2)) wls hus) (.cons (th_kt (kt_lst e2) d v it1.th dv) .nil)
        · rw [take_map_snoc hnn, ew]
          exact allSome_snoc hl
      have no : wantD n ds = none → wantsD o ds = none := fun ew => allSome_none'.mpr (List.mem_map.mpr ⟨n, mn, ew⟩)
      cases n with
      | part j =>
        obtain ⟨j0, j1⟩ := hn _ mn
        obtain ⟨v, d, hv, hdj, hk⟩ := dps_get hws1 hm j0 j1 (.str c)
        refine ⟨_, rfl, x, _, _, _, rfl, rfl, hxn1, rfl, rfl, _, rfl, ite2 (fun _ => ?_) (fun z => absurd (by decide) z)⟩
        obtain ⟨us', l', f0, f1, f2, f3, f4, f5, f6⟩ := fin H1 v d same_rfl hk hdj
        exact ⟨_, rfl, .inl ⟨rfl, _, SqL.of e1⟩, _, rfl, _, rfl, x, _, _, _, rfl, rfl, hxn1, rfl, _, _, rfl, rfl, th, _, _, _, rfl, rfl, ht1, hv, fl, us, _, rfl, rfl, f0, f1, us', l', _, rfl, f2, f3, f4, f5, f6⟩
      | around cc j =>
        obtain ⟨c1, j0, j1⟩ := hn _ mn
        obtain ⟨v, d, hv, hdj, hk⟩ := dps_get hws1 hm j0 j1 (.str c)
        have e0 : wantD (.around cc j) ds = some (.tuple [.str cc, d]) := by
          show (ds[j.toNat]?).map _ = _
          rw [hdj]
          rfl
        refine ⟨_, rfl, x, _, _, _, rfl, rfl, hxn1, rfl, rfl, _, rfl, ite2 (fun z => absurd z (by decide)) (fun _ => ?_)⟩
        refine ⟨_, rfl, x, _, _, _, rfl, rfl, hxn1, rfl, rfl, _, rfl, ite2 (fun _ => ?_) (fun z => absurd (by decide) z)⟩
        refine ⟨_, rfl, .inl ⟨rfl, _, SqL.of e1⟩, _, rfl, x, _, _, _, rfl, rfl, hxn1, rfl, _, rfl, _, rfl, x, _, _, _, rfl, rfl, hxn1, rfl, _, _, rfl, rfl, th, _, _, _, rfl, rfl, ht1, hv, (by show 2 ≤ sizeLine; omega), fun q hq => ?_⟩
        first | generalize hGq : upd _ q _ = H2 | (show Ends.nx _ _ (upd _ q _); generalize hGq : upd _ q _ = H2)
        have s2 := same_of_upd hq hGq
        have e2 := at_of_upd hGq
        have dj := its d (List.mem_of_getElem? hdj)
        obtain ⟨us', l', f0, f1, f2, f3, f4, f5, f6⟩ := fin H2 (.ref q) _ s2 (.tup (SqT.of e2) (.cons (.str _) (.cons (th_kt (kt_same s2) d v dj.th hk) .nil))) e0
        exact ⟨fl, us, _, rfl, rfl, f0, f1, us', l', _, rfl, f2, f3, f4, f5, f6⟩
      | inside j cc =>
        obtain ⟨c1, j0, j1⟩ := hn _ mn
        obtain ⟨v, d, hv, hdj, hk⟩ := dps_get hws1 hm j0 j1 (.str c)
        have dj := its d (List.mem_of_getElem? hdj)
        have e0 : wantD (.inside j cc) ds = insD cc d := want_inside hdj
        refine ⟨_, rfl, x, _, _, _, rfl, rfl, hxn1, rfl, rfl, _, rfl, ite2 (fun z => absurd z (by decide)) (fun _ => ?_)⟩
        refine ⟨_, rfl, x, _, _, _, rfl, rfl, hxn1, rfl, rfl, _, rfl, ite2 (fun z => absurd z (by decide)) (fun _ => ?_)⟩
        refine ⟨_, rfl, _, rfl, x, _, _, _, rfl, rfl, hxn1, rfl, _, _, rfl, rfl, th, _, _, _, rfl, rfl, ht1, hv, ?_⟩
        rcases dj.cases hk with ⟨c', rfl, rfl, _⟩ | ⟨q, c', zs, ps, rfl, rfl, hq, hzs, pne, _, _, ips⟩
        · refine ⟨_, _, _, _, true, rfl, .ty "str", .base (.str _), kit_ty rfl, _, rfl, ite2 (fun _ => ?_) (fun z => absurd rfl z)⟩
          exact kN H1 (no e0) s1
        · refine ⟨_, _, _, _, false, rfl, .ty "str", sqT_tyT hq, kit_ty rfl, _, rfl, ite2 (fun z => absurd z (by decide)) (fun _ => ?_)⟩
          obtain ⟨p1, pr, rfl⟩ : ∃ p1 pr, ps = p1 :: pr := by
            cases ps with
            | nil => exact absurd rfl pne
            | cons p1 pr => exact ⟨p1, pr, rfl⟩
          obtain ⟨z1, zr, rfl, dz⟩ : ∃ z1 zr, zs = z1 :: zr ∧ Dp K H1 z1 p1 := by
            cases hzs with
            | cons h _ => exact ⟨_, _, rfl, h⟩
          have get : ∃ y, atI (V.str c :: ws) (1 + j) = some y ∧ y = .ref q := ⟨_, hv, rfl⟩
          refine ⟨_, rfl, _, rfl, x, _, _, _, rfl, rfl, hxn1, rfl, _, _, rfl, rfl, th, _, _, _, rfl, rfl, ht1, hv, q, _, _, .str c', rfl, rfl, hq, ix0, _, rfl, x, _, _, .str cc, rfl, rfl, hxn1, rfl, rfl, _, rfl, ite2 (fun hb => ?_) (fun hb => ?_)⟩
          · refine kN H1 (no ?_) s1
            rw [e0]
            exact if_neg fun z => by rw [z] at hb; simp at hb
          · have hcc : c' = cc := Decidable.byContradiction fun z => hb (by
              simp only [Bool.not_eq_true', decide_eq_false_iff_not]
              intro y
              injection y with y
              exact z y)
            have e1' : wantD (.inside j cc) ds = some p1 := by rw [e0]; exact if_pos hcc
            obtain ⟨us', l', f0, f1, f2, f3, f4, f5, f6⟩ := fin H1 z1 p1 same_rfl dz e1'
            exact ⟨_, rfl, .inl ⟨rfl, _, SqL.of e1⟩, _, rfl, _, rfl, x, _, _, _, rfl, rfl, hxn1, rfl, _, _, rfl, rfl, th, _, _, _, rfl, rfl, ht1, hv, q, _, _, _, rfl, rfl, hq, ix1, fl, us, _, rfl, rfl, f0, f1, us', l', _, rfl, f2, f3, f4, f5, f6⟩
    · rintro σ H1 ⟨us, l, o4, rfl, e1, ul, hus, hl, s1⟩
      rw [List.length_map, al, List.take_of_length_le (Nat.le_refl _)] at hl
      exact ⟨_, rfl, kS l fl us H1 hl s1 hfl e1 hus⟩
abbrev nWaysAt : List Str := ["_law_w", "_law_it", "_law_way"]
theorem scWaysAt : FnScope nWaysAt ["_law_w", "_law_it"] (defScope sWaysAt) := ⟨rfl, rfl, rfl, by decide +kernel, rfl, by decide +kernel, by decide +kernel⟩
theorem ok_WaysAt  {f : Addr} {fd : FuncData} (F : Fun K "_law_ways_at" "_law_ways_at" sWaysAt f fd) (B : Bi mg) : FnOk P w K mg base CX0 (1) f fd ["_law_w", "_law_it"] (spWays K) := by
  refine F.ok scWaysAt (fun vs H Q E h => ?_) (fun cdv A outer s H vs Q E hr h => ?_)
  · obtain ⟨wd, v, ks, os, d, rfl, _⟩ := h
    rfl
  · obtain ⟨wd, v, ks, os, d, rfl, hW, hd, hit, k⟩ := h
    have line : sizeLine = 16777216 := sizeLine_eq
    refine ⟨_, (pss_one (ps_ret (pe_ifExp (pt_val (pe_callB call_isi (by rfl) B.isinstance (by decide +kernel) (pa_cons (pv 1) (pa_cons (pe_bltn (v := .ty "str") rfl B.str (by decide +kernel) rfl) pa_nil)))) (pe_lst pa_nil) (pe_lc (own := [("_law_way", 2)]) (g := (gName 2)) rfl scWaysAt.nd (pi_tup (pe_dget (hu_of hr) (pv 0) pe_str (fun _ _ => rfl))) (blkOk_by (own := [("_law_way", 2)]) (N := nWaysAt) (sc := defScope sWaysAt) (by decide +kernel)) (fun _ _ _ _ _ => (pg_name (i := 2) scWaysAt.nd rfl (Or.inl rfl))) (fun _ _ _ _ _ => (pts_one (pt_cmpR op_eq (pe_ix (show IxR _ (rIxT K) from ix_tup) (pv 2) pe_int (fun _ _ => rfl)) (pe_ix (show IxR _ (rIxT K) from ix_tup) (pv 1) pe_int (fun _ _ => rfl)) (nomark _)))) (fun _ _ _ _ _ => (pv 2)))))), ?_⟩
    rcases hit.cases hd with ⟨c, rfl, rfl, _⟩ | ⟨q, c, zs, ps, rfl, rfl, hq, hzs, pne, _, _, ips⟩
    · refine ⟨_, rfl, _, _, _, _, true, rfl, .ty "str", .base (.str _), kit_ty rfl, _, rfl, ite2 (fun _ => ?_) (fun z => absurd rfl z)⟩
      refine ⟨Nat.zero_le _, fun p hp => k p [] _ (same_new same_rfl hp) hp upd_same .nil⟩
    · refine ⟨_, rfl, _, _, _, _, false, rfl, .ty "str", sqT_tyT hq, kit_ty rfl, _, rfl, ite2 (fun z => absurd z (by decide)) (fun _ => ?_)⟩
      obtain ⟨ws, wy, pps, as, e1, h1, h2⟩ := hW.ex
      have al := h2.each.length
      have on := hW.ook.len
      refine ⟨_, rfl, wd, _, rfl, gW e1, wy, rfl, ⟨_, h2.at_⟩, fun D hD => ?_⟩
      refine lc_tup (K := K) (a := wy) (xs := as.map V.ref) (fun i H' => ∃ bs : List Addr, H' D = some (.lst (bs.map V.ref)) ∧ bs.length ≤ i ∧ Paired (OpnAt K H') bs ((os.take i).filter fun o => decide (o.k = c)) ∧ Same H H')
        ⟨[], upd_same, Nat.le_refl _, .nil, same_new same_rfl hD⟩ (fun i H' _ ⟨_, _, _, _, z⟩ => kt_same z _ _ h2.at_) ?_ ?_
      · rintro i y H1 hi ⟨bs, e2, bl, hp, s1⟩
        rw [List.getElem?_map] at hi
        obtain ⟨x, hx, rfl⟩ := Option.map_eq_some_iff.mp hi
        obtain ⟨o, ho, b, bb, hb1, hb2, hb3⟩ := paired_at h2.each hx
        have il : i < as.length := (List.getElem?_eq_some_iff.mp hx).1
        refine ⟨rfl, ?_⟩
        refine ⟨_, rfl, x, _, _, _, rfl, rfl, kt_same s1 _ _ hb1, ix1, _, rfl, q, _, _, _, rfl, rfl, kt_same s1 _ _ hq, ix0, rfl, _, rfl, ite2 (fun hb => ?_) (fun hb => ?_)⟩
        · have e : o.k = c := by
            have := of_decide_eq_true hb
            injection this
          have bl' : bs.length ≤ 20 := by
            have := h2.each.length
            omega
          refine ⟨_, rfl, _, e2, by rw [List.length_map]; omega, bs ++ [x], by rw [upd_same, List.map_append]; rfl, by rw [List.length_append]; simp; omega, ?_, same_off s1 hD⟩
          have kt2 : KTu K H1 (upd H1 D (.lst (bs.map V.ref ++ [.ref x]))) := kt_lst e2
          have tk : ((os.take (i + 1)).filter fun o => decide (o.k = c)) = ((os.take i).filter fun o => decide (o.k = c)) ++ [o] := by
            rw [List.take_add_one, ho, List.filter_append]
            congr 1
            simp [e]
          rw [tk]
          exact paired_snoc (R := OpnAt K _) ⟨b, bb, kt2 _ _ (kt_same s1 _ _ hb1), kt2 _ _ (kt_same s1 _ _ hb2), paired_mono (fun x n h => kt2 _ _ (kt_same s1 _ _ h)) hb3⟩ (paired_mono (fun a o ⟨b', as', h1, h2, h3⟩ => ⟨b', as', kt2 _ _ h1, kt2 _ _ h2, paired_mono (fun x (n : Nd) h => kt2 _ _ h) h3⟩) hp)
        · have e : ¬ o.k = c := fun z => hb (by rw [z]; exact decide_eq_true rfl)
          refine ⟨bs, e2, by omega, ?_, s1⟩
          have tk : ((os.take (i + 1)).filter fun o => decide (o.k = c)) = ((os.take i).filter fun o => decide (o.k = c)) := by
            rw [List.take_add_one, ho, List.filter_append]
            simp [e]
          rw [tk]
          exact hp
      · rintro H1 ⟨bs, e2, bl, hp, s1⟩
        rw [List.length_map, al, List.take_of_length_le (Nat.le_refl _)] at hp
        exact k D bs H1 s1 hD e2 hp
abbrev nInner : List Str := ["_law_it", "_law_found", "_law_bit"]
theorem scInner : FnScope nInner ["_law_it"] (defScope sInner) := ⟨rfl, rfl, rfl, by decide +kernel, rfl, by decide +kernel, by decide +kernel⟩
theorem ok_Inner {n : Nat} {sp' : Sp} (hG : ∀ m, n = m + 1 → ∀ vs H Q E, spInner K m vs H Q E → sp' vs H Q E) {f : Addr} {fd : FuncData} (F : Fun K "_law_inner" "_law_inner" sInner f fd) (B : Bi mg) (u_inner : Use P w K mg base n "_law_inner" ["_law_it"] sp') : FnOk P w K mg base CX0 (n + 1) f fd ["_law_it"] (spInner K n) := by
  refine F.ok scInner (fun vs H Q E h => ?_) (fun cdv A outer s H vs Q E hr h => ?_)
  · obtain ⟨v, d, rfl, _⟩ := h
    rfl
  · obtain ⟨v, d, rfl, hd, td, dep, sz1, k⟩ := h
    have line : sizeLine = 16777216 := sizeLine_eq
    refine ⟨_, (pss_cons (ps_set (i := 1) scInner.nd rfl (.inl rfl) (pe_lst (pa_cons (pv 0) pa_nil)))
      (pss_cons (ps_for PassesOwn.never rfl (pi_tup (pe_ifExp (pt_val (pe_callB call_isi (by rfl) B.isinstance (by decide +kernel) (pa_cons (pv 0) (pa_cons (pe_bltn (v := .ty "tuple") rfl B.tuple (by decide +kernel) rfl) pa_nil)))) (pe_slice sl_tup (pv 0) (po_some pe_int) po_none) (pe_tup pa_nil))) (pg_name (i := 2) scInner.nd rfl (Or.inl rfl))
        (pss_one (ps_expr (pe_bm PySem.F.plainAttrs_list PySem.F.slot_list_extend PySem.F.type_list_extend mt_extend (pv 1) (pa_cons (pe_use u_inner (hr.mono (by omega)) rfl (pa_cons (pv 2) pa_nil)) pa_nil)))))
      (pss_one (ps_ret (pv 1))))), ?_⟩
    refine ⟨_, rfl, (by show 1 ≤ sizeLine; omega), fun p0 hp0 => ?_⟩
    first | generalize hGp0 : upd _ p0 _ = H0 | (show Ends.nx _ _ (upd _ p0 _); generalize hGp0 : upd _ p0 _ = H0)
    have s0 := same_of_upd hp0 hGp0
    have e0 := at_of_upd hGp0
    have d0 := th_kt (kt_same s0) d v td hd
    rcases th_cases td d0 with ⟨c, rfl, rfl⟩ | ⟨a, c, zs, ps, rfl, rfl, ha, hzs, pne, tps⟩
    · refine ⟨_, rfl, _, _, _, _, false, rfl, .ty "tuple", .base (.str _), kit_ty rfl, _, rfl, ite2 (fun z => absurd z (by decide)) (fun _ => ?_)⟩
      refine ⟨Nat.zero_le _, fun q hq => ⟨q, rfl, ⟨_, SqT.of upd_same⟩, ?_⟩⟩
      refine for_tup (K := K) (a := q) (xs := []) (fun i σ H' => σ = [some (.str c), some (.ref p0), none] ∧ H' = upd H0 q (.tup [])) ⟨rfl, rfl⟩ (fun i σ H' _ z => by rw [z.2]; exact SqT.of upd_same) (fun i x σ H' z => by cases z) ?_
      rintro σ H' ⟨rfl, rfl⟩
      refine ⟨_, rfl, k p0 [.str c] _ (same_new s0 hq) hp0 ((upd_ne (ne_of_none e0 hq)).trans e0) ?_⟩
      rw [lot_str]
      exact .cons (.str c) .nil
    · obtain ⟨m, rfl⟩ : ∃ m, n = m + 1 := by
        cases n with
        | zero => simp only [PyData.depth] at dep; omega
        | succ m => exact ⟨m, rfl⟩
      have zl := dps_len hzs
      have lotE := lot_tup c ps
      have all : (ps.flatMap lot).length ≤ 4000 := by
        have : sz (.tuple (.str c :: ps)) = (ps.flatMap lot).length + 1 := by
          unfold sz
          rw [lotE, List.length_cons]
        omega
      have lth : ∀ x ∈ ps, ∀ z ∈ lot x, thing z = true := fun x hx z hz => lot_thing _ x (Nat.le_refl _) (tps x hx) z hz
      refine ⟨_, rfl, _, _, _, _, true, rfl, .ty "tuple", sqT_tyT ha, kit_ty rfl, _, rfl, ite2 (fun _ => ?_) (fun z => absurd rfl z)⟩
      refine ⟨_, rfl, _, rfl, a, _, rfl, ha, not_whole, fun q hq => ?_⟩
      rw [cut1']
      first | generalize hGq : upd _ q _ = H1 | (show Ends.nx _ _ (upd _ q _); generalize hGq : upd _ q _ = H1)
      have s1 := same_of_upd hq hGq
      have e1 := at_of_upd hGq
      refine ⟨q, rfl, ⟨_, SqT.of e1⟩, ?_⟩
      refine for_tup (K := K) (a := q) (xs := zs) (fun i σ H' => ∃ (us : List V) (o2 : Option V), σ = [some (.ref a), some (.ref p0), o2] ∧ H' p0 = some (.lst us) ∧ DpAll K H' us (.tuple (.str c :: ps) :: (ps.take i).flatMap lot) ∧ H' q = some (.tup zs) ∧ Same H H' ∧ KTu K H1 H')
        ⟨[.ref a], none, rfl, s1 _ _ e0, .cons (th_kt (kt_same s1) _ _ td d0) .nil, e1, same_tr s0 s1, KTu.refl⟩ (fun i σ H' _ ⟨_, _, _, _, _, z, _⟩ => SqT.of z) ?_ ?_
      · rintro i y σ H2 hi ⟨us, o2, rfl, e2, dus, eq, s2, kt⟩
        have il : i < zs.length := (List.getElem?_eq_some_iff.mp hi).1
        obtain ⟨x, hx, dy⟩ : ∃ x, ps[i]? = some x ∧ Dp K H1 y x := by
          have hx : ps[i]? = some ps[i] := List.getElem?_eq_getElem (by omega)
          obtain ⟨y', hy', dy⟩ := dps_at hzs hx
          rw [hi] at hy'
          cases hy'
          exact ⟨_, hx, th_kt (kt_same s1) _ _ (tps _ (List.mem_of_getElem? hx)) dy⟩
        have mx := List.mem_of_getElem? hx
        have mk : x ∈ kids (.tuple (.str c :: ps)) := mx
        have szx := kid_sz mk
        have ul := dps_len dus
        rw [List.length_cons] at ul
        have tl := take_lot (ps := ps) (i := i)
        refine ⟨_, rfl, .inl ⟨rfl, _, SqL.of e2⟩, _, rfl, hG m rfl _ _ _ _ ⟨y, x, rfl, th_kt kt x y (tps x mx) dy, tps x mx, kid_depth mk dep, by omega, fun p2 us2 H3 s3 np2 ep2 d2 => ?_⟩⟩
        have ul2 := dps_len d2
        have e22 : (lot x).length = sz x := rfl
        have e3 := s3 _ _ e2
        have ktl : KTu K H3 (upd H3 p0 (.lst (us ++ us2))) := kt_lst e3
        refine ⟨p0, p2, us, us2, rfl, rfl, e3, ep2, by omega, us ++ us2, _, rfl, upd_same, ?_, (upd_ne (ne_of (s3 _ _ eq) e3 (by intro z; cases z))).trans (s3 _ _ eq), same_off (same_tr s2 s3) hp0, KTu.tr kt (KTu.tr (kt_same s3) ktl)⟩
        rw [flat_snoc hx, ← List.cons_append]
        refine dps_app (ths_kt (KTu.tr (kt_same s3) ktl) _ _ (thingAll_iff.mpr fun z hz => ?_) dus) (ths_kt ktl _ _ (thingAll_iff.mpr (lth x mx)) d2)
        rcases List.mem_cons.mp hz with rfl | hz
        · exact td
        · obtain ⟨u, hu, hz⟩ := List.mem_flatMap.mp hz
          exact lth u (List.mem_of_mem_take hu) z hz
      · rintro σ H2 ⟨us, o2, rfl, e2, dus, eq, s2, kt⟩
        rw [zl, List.take_of_length_le (Nat.le_refl _), ← lotE] at dus
        exact ⟨_, rfl, k p0 us H2 s2 hp0 e2 dus⟩
end
end K15


set_option Elab.async false
set_option linter.all false
set_option maxRecDepth 100000
set_option maxHeartbeats 1000000
namespace K15
open PySem PySem.Spec PyProof.Rows L2 Mine TL StX SkE
/-! What a drawn row shows. -/
abbrev sShown : Stmt := top 27
def spShown (K : PySem.W.Frag) : Sp := fun vs H Q _ => ∃ (dk dl wd : Addr) (t : Int) (many : Nat) (ks : List (Str × Int)) (os : List Opn), vs = [.ref dk, .ref wd, .int (many : Int)] ∧ DeckAt H dk dl t ∧ WorldAt K H wd ks os ∧ 0 ≤ t ∧ t ≤ 80000 ∧ many ≤ 20 ∧
  ∀ (p : Addr) (us : List V) (ds : List PyData) (t' : Int) (H' : Hp), DeckAt H' dk dl t' → t ≤ t' → t' ≤ t + 1 + 25 * (many : Nat) → Keep dk dl H H' → H p = none → H' p = some (.lst us) → DpAll K H' us ds → (∀ d ∈ ds, ItK ks d) → (ds.map sz).sum ≤ 40 → ds.length ≤ many → Q (.ref p) H'
section
variable {P : Program} {w : World} {K : PySem.W.Frag} {mg : Str → Option Value} {base : Heap}
abbrev nShown : List Str := ["_law_deck_here", "_law_w", "_law_many", "_law_found", "_law_k", "_law_sort", "_law_it", "_law_needs", "_law_lots", "_law_way", "_law_lot", "_law_bit"]
theorem scShown : FnScope nShown ["_law_deck_here", "_law_w", "_law_many"] (defScope sShown) := ⟨rfl, rfl, rfl, by decide +kernel, rfl, by decide +kernel, by decide +kernel⟩
theorem ok_Shown  {f : Addr} {fd : FuncData} (F : Fun K "_law_shown" "_law_shown" sShown f fd) (B : Bi mg) (u_draw : Use P w K mg base 1 "_law_draw" ["_law_deck_here", "_law_many"] spDraw) (u_pick : Use P w K mg base 2 "_law_pick" ["_law_deck_here", "_law_some"] (spPickA K)) (u_item : Use P w K mg base 5 "_law_item" ["_law_deck_here", "_law_w", "_law_deep"] (spItem K 2)) (u_inner : Use P w K mg base 61 "_law_inner" ["_law_it"] (spInner K 60)) (u_wants : Use P w K mg base 1 "_law_wants" ["_law_w", "_law_way", "_law_it"] (spWants K)) (u_waysat : Use P w K mg base 1 "_law_ways_at" ["_law_w", "_law_it"] (spWays K)) : FnOk P w K mg base CX0 (62) f fd ["_law_deck_here", "_law_w", "_law_many"] (spShown K) := by
  refine F.ok scShown (fun vs H Q E h => ?_) (fun cdv A outer s H vs Q E hr h => ?_)
  · obtain ⟨dk, dl, wd, t, many, ks, os, rfl, _⟩ := h
    rfl
  · obtain ⟨dk, dl, wd, t, many, ks, os, rfl, hD, hW, t0, t1, m20, k⟩ := h
    have line : sizeLine = 16777216 := sizeLine_eq
    refine ⟨_, (pss_cons (ps_set (i := 3) scShown.nd rfl (.inl rfl) (pe_lst pa_nil))
      (pss_cons (ps_for PassesOwn.never rfl (pi_range1 rfl B.range (pa_cons (pe_use u_draw (hr.mono (by omega)) rfl (pa_cons (pv 0) (pa_cons (pe_op op_add (pv 2) pe_int) pa_nil))) pa_nil)) (pg_name (i := 4) scShown.nd rfl (Or.inl rfl))
        (pss_cons (ps_set (i := 5) scShown.nd rfl (.inl rfl) (pe_use u_draw (hr.mono (by omega)) rfl (pa_cons (pv 0) (pa_cons pe_int pa_nil))))
      (pss_cons (ps_cut (ps_if (PW.pt (pw_or (pt_cmpR op_lt (pv 5) pe_int (nomark _)) (pw_or1 (pt_cmpR (op_eqD hr.units) (pv 3) (pe_lst pa_nil) (nomark _))))) (pss_one (ps_set (i := 6) scShown.nd rfl (.inr rfl) (pe_use u_item (hr.mono (by omega)) rfl (pa_cons (pv 0) (pa_cons (pv 1) (pa_cons pe_int pa_nil)))))) (pss_one (ps_if (pt_cmpR op_eq (pv 5) pe_int (nomark _)) (pss_one (ps_set (i := 6) scShown.nd rfl (.inr rfl) (pe_use u_pick (hr.mono (by omega)) rfl (pa_cons (pv 0) (pa_cons (pe_lst (pa_cons pe_str (pa_cons pe_str (pa_cons pe_str pa_nil)))) pa_nil))))) (pss_cons (ps_set (i := 6) scShown.nd rfl (.inr rfl) (pe_use u_pick (hr.mono (by omega)) rfl (pa_cons (pv 0) (pa_cons (pe_use u_inner (hr.mono (by omega)) rfl (pa_cons (pe_use u_pick (hr.mono (by omega)) rfl (pa_cons (pv 0) (pa_cons (pv 3) pa_nil))) pa_nil)) pa_nil))))
      (pss_cons (ps_set (i := 7) scShown.nd rfl (.inl rfl) (pe_cut (pe_ifExp (pt_cmpR op_eq (pv 5) pe_int (nomark _)) (pe_lc (own := [("_law_way", 9)]) (g := (gName 9)) (tt := tYes) rfl scShown.nd (pi_list (pe_use u_waysat (hr.mono (by omega)) rfl (pa_cons (pv 1) (pa_cons (pv 6) pa_nil)))) (blkOk_by (own := [("_law_way", 9)]) (N := nShown) (sc := defScope sShown) (by decide +kernel)) (fun _ _ _ _ _ => (pg_name (i := 9) scShown.nd rfl (Or.inl rfl))) (fun _ _ _ _ _ => pts_nil) (fun _ _ _ _ _ => (pe_use u_wants (hr.mono (by omega)) rfl (pa_cons (pv 1) (pa_cons (pv 9) (pa_cons (pv 6) pa_nil)))))) (pe_lst pa_nil))))
      (pss_cons (ps_setLc (i := 8) (own := [("_law_lot", 10)]) (g := (gName 10)) rfl scShown.nd rfl rfl (sw_true rfl rfl rfl (by decide +kernel)) (pi_list (pv 7)) (blkOk_by (own := [("_law_lot", 10)]) (N := nShown) (sc := defScope sShown) (by decide +kernel)) (fun _ _ _ _ _ => (pg_name (i := 10) scShown.nd rfl (Or.inl rfl))) (fun _ _ _ _ _ => (pts_one (PW.pt (pw_and (pt_cmpR op_notN (pv 10) pe_non (nomark _)) (pw_and1 (pt_cmpR (op_neDK (K := K) rfl hr.units) (pv 10) (pe_lst pa_nil) (nomark _))))))) (fun _ _ _ _ _ => (pv 10)))
      (pss_one (ps_set (i := 6) scShown.nd rfl (.inr rfl) (pe_ifExp (pt_cmpR (op_neD hr.units) (pv 8) (pe_lst pa_nil) (nomark _)) (pe_use u_pick (hr.mono (by omega)) rfl (pa_cons (pv 0) (pa_cons (pe_use u_pick (hr.mono (by omega)) rfl (pa_cons (pv 0) (pa_cons (pv 8) pa_nil))) pa_nil))) (pv 6)))))))))))
      (pss_one (ps_if (pt_cmpR op_le (pe_op op_add (pe_callB call_len_seq (by rfl) B.len PySem.boot_len (pa_cons (pe_use u_inner (hr.mono (by omega)) rfl (pa_cons (pv 6) pa_nil)) pa_nil)) (pe_callB (cr_sum rfl) (by rfl) B.sum (by decide +kernel) (pa_cons (pe_lc (own := [("_law_bit", 11)]) (g := (gName 11)) (tt := tYes) rfl scShown.nd (pi_list (pv 3)) (blkOk_by (own := [("_law_bit", 11)]) (N := nShown) (sc := defScope sShown) (by decide +kernel)) (fun _ _ _ _ _ => (pg_name (i := 11) scShown.nd rfl (Or.inl rfl))) (fun _ _ _ _ _ => pts_nil) (fun _ _ _ _ _ => (pe_callB (call_len_seqK (K := K) rfl) (by rfl) B.len PySem.boot_len (pa_cons (pe_use u_inner (hr.mono (by omega)) rfl (pa_cons (pv 11) pa_nil)) pa_nil)))) pa_nil))) pe_int (nomark _)) (pss_one (ps_expr (pe_bm PySem.F.plainAttrs_list PySem.F.slot_list_append PySem.F.type_list_append mt_append (pv 3) (pa_cons (pv 6) pa_nil)))) pss_nil)))))
      (pss_one (ps_ret (pv 3))))), ?_⟩
    refine ⟨Nat.zero_le _, fun fl hfl => ?_⟩
    first | generalize hGfl : upd _ fl _ = H0 | (show Ends.nx _ _ (upd _ fl _); generalize hGfl : upd _ fl _ = H0)
    have s0 := same_of_upd hfl hGfl
    have e0 := at_of_upd hGfl
    have D0 := deck_same hD s0
    have foff := hD.off hfl
    have r1' : Room 1 _ := hr.mono (show 1 ≤ 61 by decide)
    refine ⟨_, rfl, _, rfl, _, _, rfl, rfl, dk, dl, many + 1, t, rfl, D0, by omega, by omega, by omega, by omega, fun r H1 r0 r1 D1 K1 => ?_⟩
    have e1 := K1 _ _ foff.1 foff.2 e0
    have K01 : Keep dk dl H H1 := (same_keep s0).trans K1
    refine ⟨r, rfl, by omega, by omega, ?_⟩
    refine for_range (lo := 0) (n := r.toNat) (fun i σ H' => ∃ (us : List V) (ds : List PyData) (t' : Int) (o4 o5 o6 o7 o8 : Option V), σ = [some (.ref dk), some (.ref wd), some (.int (many : Int)), some (.ref fl), o4, o5, o6, o7, o8, none, none, none] ∧ H' fl = some (.lst us) ∧ DpAll K H' us ds ∧ (∀ d ∈ ds, ItK ks d) ∧ (ds.map sz).sum ≤ 40 ∧ ds.length ≤ i ∧ DeckAt H' dk dl t' ∧ t + 1 ≤ t' ∧ t' ≤ t + 1 + 25 * (i : Int) ∧ Keep dk dl H H')
      ⟨[], [], t + 1, none, none, none, none, none, rfl, e1, .nil, (fun _ z => (List.not_mem_nil z).elim), by simp, Nat.le_refl _, D1, by omega, by omega, K01⟩ ?_ ?_
    · rintro i σ H2 hi ⟨us, ds, t2, o4, o5, o6, o7, o8, rfl, e2, dus, its, sm, dn, D2, ta, tb, K2⟩
      have ul := dps_len dus
      have W2 := hW.keep hD K2
      have i20 : i < 20 := by omega
      refine ⟨_, rfl, dk, dl, 5, t2, rfl, D2, by decide, by decide, by omega, by omega, fun so H3 so0 so1 D3 K3 => ?_⟩
      have e3 := K3 _ _ foff.1 foff.2 e2
      have dus3 := its_kt (kt_keep D2 K3) its dus
      have K03 := K2.trans K3
      have W3 := hW.keep hD K03
      refine ⟨fun σ' H' => ∃ (v : V) (d : PyData) (t' : Int) (o7 o8 : Option V), σ' = [some (.ref dk), some (.ref wd), some (.int (many : Int)), some (.ref fl), some (.int (0 + (i : Int))), some (.int so), some v, o7, o8, none, none, none] ∧ Dp K H' v d ∧ ItK ks d ∧ sz d ≤ 41 ∧ DeckAt H' dk dl t' ∧ t2 + 1 ≤ t' ∧ t' ≤ t2 + 20 ∧ Keep dk dl H3 H', ?_, ?_⟩
      · have one : ∀ (l : List Str), (∀ x ∈ l, x ∈ IV) → ∀ c ∈ l, ItK ks (.str c) ∧ sz (.str c) ≤ 41 := fun l h c hc => ⟨ItK.str (h c hc), by rw [sz_str]; decide⟩
        have item : ∀ (H4 : Hp) (Q' : VK), Same H3 H4 → (∀ (v : V) (d : PyData) (t' : Int) (H' : Hp), Dp K H' v d → ItK ks d → sz d ≤ 41 → DeckAt H' dk dl t' → t2 + 1 ≤ t' → t' ≤ t2 + 20 → Keep dk dl H3 H' → Q' v H') → spItem K 2 [.ref dk, .ref wd, .int 2] H4 Q' E0 := fun H4 Q' s4 q =>
          ⟨dk, dl, wd, t2 + 1, ks, os, rfl, deck_same D3 s4, W3.keep D3 (same_keep s4), by omega, by have : cB 2 = 17 := rfl; omega, by decide, fun v d t' H' D' xa xb K' hv hit hs => q v d t' H' hv hit (by have : sB 2 = 13 := rfl; omega) D' (by omega) (by have : cB 2 = 17 := rfl; omega) ((same_keep s4).trans K')⟩
        refine ⟨_, rfl, _, _, rfl, rfl, _, rfl, ite2 (fun hb => ?_) (fun hb => ?_)⟩
        · exact ⟨_, rfl, _, rfl, item H3 _ same_rfl fun v d t' H' hv hit hs D' xa xb K' => ⟨v, d, t', _, _, rfl, hv, hit, hs, D', xa, xb, K'⟩⟩
        · have dsok : SeqAt.shaped (.list ds) = true := shapedI (ks := ks) fun d hd => ⟨its d hd, by have := mem_szs hd; omega⟩
          refine ⟨_, rfl, Nat.zero_le _, fun e he => ?_⟩
          first | generalize hGe : upd _ e _ = H4 | (show Ends.nx _ _ (upd _ e _); generalize hGe : upd _ e _ = H4)
          have s4 := same_of_upd he hGe
          have e4 := at_of_upd hGe
          have D4 := deck_same D3 s4
          have dus4 := its_kt (kt_same s4) its dus3
          have f4 := s4 _ _ e3
          refine ⟨_, _, .lst (SqL.of f4) dus4, .lst (SqL.of e4) .nil, dsok, rfl, _, rfl, ?_⟩
          rw [eqv_nil]
          cases hds : ds with
          | nil => exact ⟨_, rfl, _, rfl, item H4 _ s4 fun v d t' H' hv hit hs D' xa xb K' => ⟨v, d, t', _, _, rfl, hv, hit, hs, D', xa, xb, K'⟩⟩
          | cons d0 dr =>
            have une : us ≠ [] := fun z => by
              rw [z, hds] at ul
              cases ul
            refine ⟨_, rfl, rfl, _, rfl, ite2 (fun hb2 => ?_) (fun hb2 => ?_)⟩
            · refine ⟨_, rfl, (by show 3 ≤ sizeLine; omega), fun p hp => ?_⟩
              first | generalize hGp : upd _ p _ = H5 | (show Ends.nx _ _ (upd _ p _); generalize hGp : upd _ p _ = H5)
              have s5 := same_of_upd hp hGp
              have e5 := at_of_upd hGp
              refine .inl ⟨dk, dl, p, t2 + 1, _, rfl, deck_same D4 s5, (D4.off hp).2, e5, by simp, by decide, by omega, by omega, fun y H6 hy D6 K6 => ?_⟩
              have hy' : y ∈ ([lsS "K", lsS "M", lsS "Nx9"]).map V.str := hy
              obtain ⟨c, hc, rfl⟩ := List.mem_map.mp hy'
              obtain ⟨a, b⟩ := one [lsS "K", lsS "M", lsS "Nx9"] (by decide +kernel) c hc
              exact ⟨_, .str c, t2 + 1 + 1, _, _, rfl, .str c, a, b, D6, by omega, by omega, (same_keep (same_tr s4 s5)).trans K6⟩
            · -- a piece of a shown thing
              refine ⟨_, rfl, _, rfl, _, rfl, .inl ⟨dk, dl, fl, t2 + 1, us, rfl, D4, foff.2, f4, une, by omega, by omega, by omega, fun y H5 hy D5 K5 => ?_⟩⟩
              have f5 := K5 _ _ foff.1 foff.2 f4
              have K35 : Keep dk dl H3 H5 := (same_keep s4).trans K5
              obtain ⟨d1, md1, hd1⟩ := dps_mem (its_kt (kt_keep D4 K5) its dus4) hy
              have it1 := its d1 md1
              have dep1 := it1.dep
              have sz1 := mem_szs md1
              refine ⟨y, d1, rfl, hd1, it1.th, by omega, by omega, fun q us6 H6 s6 nq e6 d6 => ?_⟩
              have D6 := deck_same D5 s6
              have l6 := dps_len d6
              have l6' : us6.length = sz d1 := l6
              have p1 := sz_pos d1
              refine .inl ⟨dk, dl, q, t2 + 1 + 1, us6, rfl, D6, (D5.off nq).2, e6, (fun z => by rw [z] at l6'; simp at l6'; omega), by omega, by omega, by omega, fun y2 H7 hy2 D7 K7 => ?_⟩
              obtain ⟨d2, md2, hd2⟩ := dps_mem (its_kt (kt_keep D6 K7) (fun z hz => (ItK.lot _ (Nat.le_refl _) it1 z hz).1) d6) hy2
              obtain ⟨it2, sz2⟩ := ItK.lot _ (Nat.le_refl _) it1 d2 md2
              have f7 := K7 _ _ foff.1 foff.2 (s6 _ _ f5)
              have K37 : Keep dk dl H3 H7 := (K35.trans (same_keep s6)).trans K7
              have W7 := W3.keep D3 K37
              have K47 : Keep dk dl H4 H7 := (K5.trans (same_keep s6)).trans K7
              -- what the openings want
              refine ⟨fun v' H' => ∃ (p : Addr) (vs : List V) (xs : List (Option (List PyData))), v' = .ref p ∧ H' p = some (.lst vs) ∧ Paired (WAt K H' ks fun a => a ≠ dk ∧ a ≠ dl ∧ a ≠ p) vs xs ∧ xs.length ≤ 20 ∧ Same H7 H', ?_, ?_⟩
              · refine ⟨_, rfl, rfl, _, rfl, ite2 (fun hb3 => ?_) (fun hb3 => ?_)⟩
                · refine ⟨_, rfl, _, rfl, wd, y2, ks, os, d2, rfl, W7, hd2, it2, fun pw as H8 s8 nw e8 hpw => ?_⟩
                  have wl := ways_len (os := os) (d := d2)
                  have ol := W7.ook.len
                  have asl := hpw.length
                  refine ⟨pw, rfl, ⟨_, SqL.of e8⟩, fun D hDn => ?_⟩
                  have D8 := deck_same D7 s8
                  have doff := D8.off hDn
                  refine lc_list (K := K) (a := pw) (xs := as.map V.ref) (fun i H' => ∃ (vs : List V) (xs : List (Option (List PyData))), H' D = some (.lst vs) ∧ vs.length = i ∧ Paired (WAt K H' ks fun a => a ≠ dk ∧ a ≠ dl ∧ a ≠ D) vs xs ∧ Same H8 H')
                    ⟨[], [], upd_same, rfl, .nil, same_new same_rfl hDn⟩ (fun i H' _ ⟨_, _, _, _, _, z⟩ => SqL.of (z _ _ e8)) ?_ ?_
                  · rintro j z H9 hj ⟨vs, xs, e9, vl, hp9, s9⟩
                    rw [List.getElem?_map] at hj
                    obtain ⟨x, hx, rfl⟩ := Option.map_eq_some_iff.mp hj
                    obtain ⟨o, ho, hox⟩ := paired_at hpw hx
                    have jl : j < as.length := (List.getElem?_eq_some_iff.mp hx).1
                    obtain ⟨c2, ds2, rfl, wok⟩ := way_ok W7.kok W7.ook it2 (List.mem_of_getElem? ho)
                    have s89 := same_tr s8 s9
                    have hox9 : OpnAt K H9 x o := OpnAt.same s9 hox
                    have kdz : ∀ d ∈ ds2, ItK ks d ∧ sz d ≤ 40 := fun d hd => ⟨it2.kid.2.2 d hd, by have : sz d + 1 ≤ sz (.tuple (.str c2 :: ds2)) := kid_sz (show d ∈ kids (.tuple (.str c2 :: ds2)) from hd); omega⟩
                    refine ⟨rfl, ?_⟩
                    unfold tYes
                    dsimp only
                    rw [if_pos rfl]
                    have fin : ∀ (v : V) (x : Option (List PyData)) (HA : Hp), Same H9 HA → WAt K HA ks (fun a => H9 a = none) v x → ∃ acc, HA D = some (.lst acc) ∧ acc.length < sizeLine ∧ ∃ (vs : List V) (xs : List (Option (List PyData))), upd HA D (.lst (acc ++ [v])) D = some (.lst vs) ∧ vs.length = j + 1 ∧ Paired (WAt K (upd HA D (.lst (acc ++ [v]))) ks fun a => a ≠ dk ∧ a ≠ dl ∧ a ≠ D) vs xs ∧ Same H8 (upd HA D (.lst (acc ++ [v]))) := fun v x HA sA hv => by
                      have eA := sA _ _ e9
                      have ktA : KTu K HA (upd HA D (.lst (vs ++ [v]))) := kt_lst eA
                      have D9 := deck_same D8 s9
                      refine ⟨vs, eA, by omega, vs ++ [v], xs ++ [x], upd_same, by rw [List.length_append, vl]; rfl, ?_, same_off (same_tr s9 sA) hDn⟩
                      refine paired_snoc (R := WAt K (upd HA D (.lst (vs ++ [v]))) ks fun a => a ≠ dk ∧ a ≠ dl ∧ a ≠ D) (hv.mono (fun p us h e => (upd_ne (fun z => by rw [z, e9] at h; cases h)).trans e) (fun p us h e => ⟨(D9.off h).1, (D9.off h).2, fun z => by rw [z, e9] at h; cases h⟩) ktA) (paired_mono (fun a b h => h.mono (fun p us h e => (upd_ne h.2.2).trans (sA _ _ e)) (fun _ _ h _ => h) (KTu.tr (kt_same sA) ktA)) hp9)
                    refine ⟨_, rfl, _, rfl, _, rfl, .ref wd, x, y2, o, c2, ds2, _, ks, rfl, hox9, th_kt (kt_same s89) _ _ it2.th hd2, it2, rfl, wok.nd, wok.len, W7.kok.ww, fun l p us H' hl sA np ep hdl => ?_, fun H' hl sA => ?_⟩
                    · refine fin (.ref p) (some l) H' sA ⟨p, us, rfl, np, ep, hdl, fun d hd => ?_, ?_⟩
                      rotate_left
                      · have e := congrArg List.length (allSome_some.mp hl)
                        have := wok.len
                        rw [List.length_map, List.length_map] at e
                        omega
                      have md : some d ∈ o.nn.map fun n => wantD n ds2 := by rw [allSome_some.mp hl]; exact List.mem_map_of_mem hd
                      obtain ⟨n', hn', e'⟩ := List.mem_map.mp md
                      exact want_it W7.kok.ww kdz (wok.nd n' hn') e'
                    · exact fin .non none H' sA rfl
                  · rintro H9 ⟨vs, xs, e9, vl, hp9, s9⟩
                    have := hp9.length
                    rw [List.length_map] at vl
                    exact ⟨D, vs, xs, rfl, e9, hp9, by omega, same_tr s8 s9⟩
                · refine ⟨Nat.zero_le _, fun p hp => ⟨p, [], [], rfl, upd_same, .nil, Nat.zero_le _, same_new same_rfl hp⟩⟩
              · rintro v' H8 ⟨p, vs, xs, rfl, e8, hp8, xl, s8⟩
                have D8 := deck_same D7 s8
                have vxl := hp8.length
                refine ⟨_, rfl, p, rfl, ⟨_, SqL.of e8⟩, fun D hDn => ?_⟩
                have doff := D8.off hDn
                have pD : p ≠ D := ne_of_none e8 hDn
                refine lc_list (K := K) (a := p) (xs := vs) (fun i H' => ∃ (us : List V) (ls : List (List PyData)), H' D = some (.lst us) ∧ us.length ≤ i ∧ Paired (fun v l => WAt K H' ks (fun a => a ≠ dk ∧ a ≠ dl ∧ a ≠ D) v (some l) ∧ l ≠ []) us ls ∧ Same H8 H')
                  ⟨[], [], upd_same, Nat.le_refl _, .nil, same_new same_rfl hDn⟩ (fun i H' _ ⟨_, _, _, _, _, z⟩ => SqL.of (z _ _ e8)) ?_ ?_
                · rintro j z H9 hj ⟨us9, ls, e9, ul9, hp9, s9⟩
                  obtain ⟨x, hx, hz⟩ := paired_at hp8 hj
                  have jl : j < vs.length := (List.getElem?_eq_some_iff.mp hj).1
                  refine ⟨rfl, ?_⟩
                  cases x with
                  | none =>
                    cases hz
                    exact ⟨_, rfl, rfl, _, rfl, us9, ls, e9, by omega, hp9, s9⟩
                  | some l =>
                    obtain ⟨b, ub, rfl, ob, eb, db, ib⟩ := hz
                    have db9 := its_kt (kt_same s9) (fun d hd => (ib.1 d hd).1) db
                    refine ⟨_, rfl, rfl, _, rfl, ?_⟩
                    refine ⟨_, rfl, Nat.zero_le _, fun e2 he2 => ?_⟩
                    first | generalize hGe2 : upd _ e2 _ = HA | (show Ends.nx _ _ (upd _ e2 _); generalize hGe2 : upd _ e2 _ = HA)
                    have sA := same_of_upd he2 hGe2
                    have eA := at_of_upd hGe2
                    refine ⟨_, _, .lst (SqL.of (sA _ _ (s9 _ _ eb))) (its_kt (kt_same sA) (fun d hd => (ib.1 d hd).1) db9), .lst (SqL.of eA) .nil, shapedI (ks := ks) fun d hd => ⟨(ib.1 d hd).1, by have := (ib.1 d hd).2; omega⟩, rfl, _, rfl, ?_⟩
                    rw [eqv_nil]
                    have e9A := sA _ _ e9
                    cases l with
                    | nil =>
                      refine ⟨us9, ls, e9A, by omega, paired_mono (fun a b h => ⟨h.1.mono (fun p us h e => sA _ _ e) (fun _ _ h _ => h) (kt_same sA), h.2⟩) hp9, same_tr s9 sA⟩
                    | cons l0 lr =>
                      have bD : b ≠ D := ne_of_none eb hDn
                      refine ⟨_, rfl, _, e9A, by omega, us9 ++ [.ref b], ls ++ [l0 :: lr], upd_same, by rw [List.length_append]; simp; omega, ?_, same_off (same_tr s9 sA) hDn⟩
                      have ktA : KTu K HA (upd HA D (.lst (us9 ++ [.ref b]))) := kt_lst e9A
                      refine paired_snoc (R := fun v l => WAt K (upd HA D (.lst (us9 ++ [.ref b]))) ks (fun a => a ≠ dk ∧ a ≠ dl ∧ a ≠ D) v (some l) ∧ l ≠ []) ⟨⟨b, ub, rfl, ⟨ob.1, ob.2.1, bD⟩, (upd_ne bD).trans (sA _ _ (s9 _ _ eb)), its_kt (KTu.tr (kt_same sA) ktA) (fun d hd => (ib.1 d hd).1) db9, ib⟩, by simp⟩ (paired_mono (fun a b h => ⟨h.1.mono (fun p us h e => (upd_ne h.2.2).trans (sA _ _ e)) (fun _ _ h _ => h) (KTu.tr (kt_same sA) ktA), h.2⟩) hp9)
                · rintro H9 ⟨us9, ls, e9, ul9, hp9, s9⟩
                  have D9 := deck_same D8 s9
                  have us9l := hp9.length
                  have lsI : ∀ l ∈ ls, (∀ d ∈ l, ItK ks d ∧ sz d ≤ 41) ∧ l ≠ [] := by
                    clear ul9 us9l e9
                    induction hp9 with
                    | nil => exact fun _ z => (List.not_mem_nil z).elim
                    | cons h _ ih =>
                      intro l hl
                      rcases List.mem_cons.mp hl with rfl | hl
                      · obtain ⟨⟨_, _, _, _, _, _, h1, _⟩, h2⟩ := h
                        exact ⟨h1, h2⟩
                      · exact ih l hl
                  have lsh : SeqAt.shaped (.list (ls.map PyData.list)) = true := by
                    refine shapedL (fun d hd => ?_) (fun d hd => ?_)
                    · obtain ⟨l, hl, rfl⟩ := List.mem_map.mp hd
                      simp only [PyData.canLay0]
                      exact lays_iff.mpr fun d hd => ((lsI l hl).1 d hd).1.lay
                    · obtain ⟨l, hl, rfl⟩ := List.mem_map.mp hd
                      have : PyData.depthAll l ≤ 41 := deps_le.mpr fun d hd => by have := ((lsI l hl).1 d hd).1.dep; have := ((lsI l hl).1 d hd).2; omega
                      simp only [PyData.depth]
                      omega
                  have K39 : Keep dk dl H3 H9 := K37.trans (same_keep (same_tr s8 s9))
                  refine ⟨_, rfl, Nat.zero_le _, fun e2 he2 => ?_⟩
                  first | generalize hGe2 : upd _ e2 _ = HA | (show Ends.nx _ _ (upd _ e2 _); generalize hGe2 : upd _ e2 _ = HA)
                  have sA := same_of_upd he2 hGe2
                  have eA := at_of_upd hGe2
                  have e9A := sA _ _ e9
                  have DA := deck_same D9 sA
                  have lsz : us9.length = ls.length := us9l
                  have dpl : DpAll K HA us9 (ls.map PyData.list) := by
                    have hpA := paired_mono (S := fun v l => WAt K HA ks (fun a => a ≠ dk ∧ a ≠ dl ∧ a ≠ D) v (some l)) (fun a b h => h.1.mono (fun p us h e => sA _ _ e) (fun _ _ h _ => h) (kt_same sA)) hp9
                    exact wats_dp hpA
                  refine ⟨_, _, .lst (SqL.of e9A) dpl, .lst (SqL.of eA) .nil, lsh, rfl, _, rfl, ?_⟩
                  rw [eqv_nil]
                  cases hls : ls with
                  | nil =>
                    refine ⟨_, rfl, y2, d2, t2 + 1 + 1 + 1, _, _, rfl, ?_, it2, by omega, DA, by omega, by omega, K39.trans (same_keep sA)⟩
                    exact th_kt (kt_same (same_tr s8 (same_tr s9 sA))) _ _ it2.th hd2
                  | cons l0 lr =>
                    have u9e : us9 ≠ [] := fun z => by rw [z, hls] at lsz; cases lsz
                    refine ⟨_, rfl, _, rfl, _, rfl, .inl ⟨dk, dl, D, t2 + 1 + 1 + 1, us9, rfl, DA, doff.2, e9A, u9e, by omega, by omega, by omega, fun y3 HB hy3 DB KB => ?_⟩⟩
                    obtain ⟨l, ml, ⟨b, ub, rfl, ob, eb, db, ib⟩, lne⟩ := paired_mem1 hp9 hy3
                    have ebB := KB _ _ ob.1 ob.2.1 (sA _ _ eb)
                    have dbl := dps_len db
                    have ube : ub ≠ [] := fun z => lne (List.length_eq_zero_iff.mp (by rw [← dbl, z]; rfl))
                    have lsmall : l.length ≤ 3 := ib.2
                    refine .inl ⟨dk, dl, b, t2 + 1 + 1 + 1 + 1, ub, rfl, DB, ob.2.1, ebB, ube, by omega, by omega, by omega, fun y4 HC hy4 DC KC => ?_⟩
                    obtain ⟨d4, md4, hd4⟩ := dps_mem (its_kt (KTu.tr (kt_same sA) (KTu.tr (kt_keep DA KB) (kt_keep DB KC))) (fun d hd => (ib.1 d hd).1) db) hy4
                    exact ⟨y4, d4, t2 + 1 + 1 + 1 + 1 + 1, _, _, rfl, hd4, (ib.1 d4 md4).1, (ib.1 d4 md4).2, DC, by omega, by omega, ((K39.trans (same_keep sA)).trans KB).trans KC⟩
      · rintro σ' H4 ⟨v, d, t4, o7, o8, rfl, hv, hit, s41, D4, tc, td, K4⟩
        have e4 := K4 _ _ foff.1 foff.2 e3
        have dus4 := its_kt (kt_keep D3 K4) its dus3
        have K04 := K03.trans K4
        have dep := hit.dep
        refine ⟨_, rfl, v, d, rfl, hv, hit.th, by omega, by omega, fun q5 us5 H5 s5 n5 e5 d5 => ?_⟩
        have l5 := dps_len d5
        refine ⟨q5, us5, rfl, .inl (SqL.of e5), ?_⟩
        refine ⟨_, rfl, fl, rfl, ⟨_, SqL.of (s5 _ _ e4)⟩, fun D hDn => ?_⟩
        have dus5 := its_kt (kt_same s5) its dus4
        refine lc_list (K := K) (a := fl) (xs := us) (fun i H' => H' D = some (.lst (((ds.take i).map fun d => ((sz d : Nat) : Int)).map V.int)) ∧ Same H5 H') ⟨upd_same, same_new same_rfl hDn⟩ (fun i H' _ z => SqL.of (z.2 _ _ (s5 _ _ e4))) ?_ ?_
        · rintro j y H6 hj ⟨eD, s6⟩
          have jl : j < us.length := (List.getElem?_eq_some_iff.mp hj).1
          obtain ⟨x, hx, dy⟩ : ∃ x, ds[j]? = some x ∧ Dp K H5 y x := by
            have hx : ds[j]? = some ds[j] := List.getElem?_eq_getElem (by omega)
            obtain ⟨y', hy', dy⟩ := dps_at dus5 hx
            rw [hj] at hy'
            cases hy'
            exact ⟨_, hx, dy⟩
          have mx := List.mem_of_getElem? hx
          have ix := its x mx
          have dx := ix.dep
          have sx := mem_szs mx
          refine ⟨rfl, ?_⟩
          unfold tYes
          dsimp only
          rw [if_pos rfl]
          refine ⟨_, rfl, y, x, rfl, th_kt (kt_same s6) x y ix.th dy, ix.th, by omega, by omega, fun q7 us7 H7 s7 n7 e7 d7 => ?_⟩
          have l7 := dps_len d7
          refine ⟨q7, us7, rfl, .inl (SqL.of e7), ?_⟩
          refine ⟨_, s7 _ _ eD, by rw [List.length_map, List.length_map, List.length_take]; omega, ?_, same_off (same_tr s6 s7) hDn⟩
          rw [upd_same, take_map_snoc hx, List.map_append]
          have : us7.length = sz x := l7
          rw [this]
          rfl
        · rintro H6 ⟨eD, s6⟩
          rw [ul, List.take_of_length_le (Nat.le_refl _)] at eD
          have sI : ((ds.map fun d => ((sz d : Nat) : Int)).sum : Int) = (((ds.map sz).sum : Nat) : Int) := by
            have go : ∀ l : List PyData, ((l.map fun d => ((sz d : Nat) : Int)).sum : Int) = (((l.map sz).sum : Nat) : Int) := fun l => by
              induction l with
              | nil => rfl
              | cons x l ih => simp only [List.map_cons, List.sum_cons, ih, Int.natCast_add]
            exact go ds
          have l5' : us5.length = sz d := l5
          refine ⟨D, _, rfl, SqL.of eD, _, _, rfl, rfl, _, _, rfl, rfl, _, rfl, ite2 (fun hb => ?_) (fun hb => ?_)⟩
          · have hle := of_decide_eq_true hb
            have e6 := s6 _ _ (s5 _ _ e4)
            rw [sI, l5'] at hle
            refine ⟨_, rfl, .inl ⟨rfl, _, SqL.of e6⟩, _, rfl, fl, us, v, rfl, rfl, e6, by omega, ?_⟩
            have kt6 : KTu K H6 (upd H6 fl (.lst (us ++ [v]))) := kt_lst e6
            have kt46 : KTu K H4 H6 := kt_same (same_tr s5 s6)
            refine ⟨us ++ [v], ds ++ [d], t4, _, _, _, _, _, rfl, upd_same, dps_app (its_kt (KTu.tr kt46 kt6) its dus4) (.cons (th_kt (KTu.tr kt46 kt6) d v hit.th hv) .nil), fun z hz => ?_, ?_, by rw [List.length_append]; simp; omega, (deck_same D4 (same_tr s5 s6)).set foff.1 foff.2, by omega, by omega, keep_off (K04.trans (same_keep (same_tr s5 s6))) hfl⟩
            · rcases List.mem_append.mp hz with h | h
              · exact its _ h
              · rw [List.mem_singleton.mp h]
                exact hit
            · rw [List.map_append, List.sum_append]
              simp only [List.map_cons, List.map_nil, List.sum_cons, List.sum_nil]
              omega
          · exact ⟨us, ds, t4, _, _, _, _, _, rfl, s6 _ _ (s5 _ _ e4), its_kt (kt_same (same_tr s5 s6)) its dus4, its, sm, by omega, deck_same D4 (same_tr s5 s6), by omega, by omega, K04.trans (same_keep (same_tr s5 s6))⟩
    · rintro σ H2 ⟨us, ds, t2, o4, o5, o6, o7, o8, rfl, e2, dus, its, sm, dn, D2, ta, tb, K2⟩
      exact ⟨_, rfl, k fl us ds t2 H2 D2 (by omega) (by omega) K2 hfl e2 dus its sm (by omega)⟩
end
end K15


set_option Elab.async false
set_option linter.all false
set_option maxRecDepth 100000
set_option maxHeartbeats 1000000
namespace K15
open PySem PySem.Spec PyProof.Rows L2 Mine TL StX SkE
/-! What a step comes to, by the law. -/
abbrev sWorth : Stmt := top 29
def spWorth (K : PySem.W.Frag) : Sp := fun vs H Q _ => ∃ (wd pi pw : Addr) (v : V) (us ws : List V) (items : List PyData) (xs : List (Option PyData)) (ks : List (Str × Int)) (os : List Opn) (s : Stp), vs = [.ref wd, .ref pi, .ref pw, v] ∧ WorldAt K H wd ks os ∧ SqL K H pi us ∧ DpAll K H us items ∧ (∀ d ∈ items, ItK ks d) ∧
  SqL K H pw ws ∧ DpAll K H ws (xs.map optD) ∧ (∀ d, some d ∈ xs → ItK ks d ∧ sz d ≤ 41) ∧ StAt K H v s ∧ StOk ks os items.length xs.length s ∧ ∀ v' H', Same H H' → Dp K H' v' (optD (worthS os items xs s)) → Q v' H'
section
variable {P : Program} {w : World} {K : PySem.W.Frag} {mg : Str → Option Value} {base : Heap}
abbrev nWorth : List Str := ["_law_w", "_law_items", "_law_worths_here", "_law_step", "_law_own", "_law_way", "_law_number", "_law_it"]
theorem scWorth : FnScope nWorth ["_law_w", "_law_items", "_law_worths_here", "_law_step"] (defScope sWorth) := ⟨rfl, rfl, rfl, by decide +kernel, rfl, by decide +kernel, by decide +kernel⟩
theorem ok_Worth  {f : Addr} {fd : FuncData} (F : Fun K "_law_worth" "_law_worth" sWorth f fd) (B : Bi mg) (u_wants : Use P w K mg base 1 "_law_wants" ["_law_w", "_law_way", "_law_it"] (spWants K)) : FnOk P w K mg base CX0 (2) f fd ["_law_w", "_law_items", "_law_worths_here", "_law_step"] (spWorth K) := by
  refine F.ok scWorth (fun vs H Q E h => ?_) (fun cdv A outer s H vs Q E hr h => ?_)
  · obtain ⟨wd, pi, pw, v, us, ws, items, xs, ks, os, st, rfl, _⟩ := h
    rfl
  · obtain ⟨wd, pi, pw, v, us, ws, items, xs, ks, os, st, rfl, hW, hpi, hus, its, hpw, hws, xok, hst, sok, k⟩ := h
    have line : sizeLine = 16777216 := sizeLine_eq
    refine ⟨_, (pss_cons (ps_if (pt_cmpR op_eq (pe_ix ix_tup (pv 3) pe_int (fun _ _ => rfl)) pe_str (nomark _)) (pss_one (ps_ret (pe_ix ix_list (pv 1) (pe_ix ix_tup (pv 3) pe_int (fun _ _ => rfl)) (fun _ _ => rfl)))) pss_nil)
      (pss_cons (ps_if (pt_cmpR op_eq (pe_ix ix_tup (pv 3) pe_int (fun _ _ => rfl)) pe_str (nomark _)) (pss_one (ps_ret (pe_ix ix_tup (pv 3) pe_int (fun _ _ => rfl)))) pss_nil)
      (pss_cons (ps_setLc (i := 4) (own := [("_law_number", 6)]) (g := (gName 6)) (tt := tYes) rfl scWorth.nd rfl rfl (sw_true rfl rfl rfl (by decide +kernel)) (pi_tup (pe_ix ix_tup (pv 3) pe_int (fun _ _ => rfl))) (blkOk_by (own := [("_law_number", 6)]) (N := nWorth) (sc := defScope sWorth) (by decide +kernel)) (fun _ _ _ _ _ => (pg_name (i := 6) scWorth.nd rfl (Or.inl rfl))) (fun _ _ _ _ _ => pts_nil) (fun _ _ _ _ _ => (pe_ix (show IxR _ (rIxL K) from ix_list) (pv 2) (pv 6) (fun _ _ => rfl))))
      (pss_cons (ps_if (pt_cmpR (op_inD (room65 hr)) pe_non (pv 4) (by with_unfolding_all rfl)) (pss_one (ps_ret pe_non)) pss_nil)
      (pss_cons (ps_if (pt_cmpR op_eq (pe_ix ix_tup (pv 3) pe_int (fun _ _ => rfl)) pe_str (nomark _)) (pss_one (ps_ret (pe_op op_catT (pe_tup (pa_cons (pe_ix ix_tup (pv 3) pe_int (fun _ _ => rfl)) pa_nil)) (pe_callTy call_tuple_of (by rfl) B.tuple (by decide +kernel) (pa_cons (pv 4) pa_nil))))) pss_nil)
      (pss_cons (ps_set (i := 5) scWorth.nd rfl (.inl rfl) (pe_ix ix_list (pe_lc (own := [("_law_it", 7)]) (g := (gName 7)) rfl scWorth.nd (pi_tup (pe_dget (hu_of hr) (pv 0) pe_str (fun _ _ => rfl))) (blkOk_by (own := [("_law_it", 7)]) (N := nWorth) (sc := defScope sWorth) (by decide +kernel)) (fun _ _ _ _ _ => (pg_name (i := 7) scWorth.nd rfl (Or.inl rfl))) (fun _ _ _ _ _ => (pts_one (pt_cmpR op_eq (pe_ix (show IxR _ (rIxT K) from ix_tup) (pv 7) pe_int (fun _ _ => rfl)) (pe_ix (show IxR _ (rIxT K) from ix_tup) (pv 3) pe_int (fun _ _ => rfl)) (nomark _)))) (fun _ _ _ _ _ => (pv 7))) pe_int (fun _ _ => rfl)))
      (pss_cons (ps_if (PW.pt (pw_or (pt_val (pe_callB call_isi (by rfl) B.isinstance (by decide +kernel) (pa_cons (pe_ix ix_list (pv 4) pe_int (fun _ _ => rfl)) (pa_cons (pe_bltn (v := .ty "str") rfl B.str (by decide +kernel) rfl) pa_nil)))) (pw_or (pt_cmpR op_ne (pe_ix ix_tup (pe_ix ix_list (pv 4) pe_int (fun _ _ => rfl)) pe_int (fun _ _ => rfl)) (pe_ix ix_tup (pv 5) pe_int (fun _ _ => rfl)) (nomark _)) (pw_or1 (pt_cmpR (op_neD hr.units) (pe_use u_wants (hr.mono (by omega)) rfl (pa_cons (pv 0) (pa_cons (pv 5) (pa_cons (pe_ix ix_list (pv 4) pe_int (fun _ _ => rfl)) pa_nil)))) (pe_slice sl_list (pv 4) (po_some pe_int) po_none) (nomark _)))))) (pss_one (ps_ret pe_non)) pss_nil)
      (pss_one (ps_ret (pe_ix ix_tup (pe_ix ix_list (pv 4) pe_int (fun _ _ => rfl)) (pe_op op_add pe_int (pe_ix ix_tup (pv 5) pe_int (fun _ _ => rfl))) (fun _ _ => rfl))))))))))), ?_⟩
    have xl := dps_len hws
    rw [List.length_map] at xl
    rcases (show (∃ i, st = .shown i) ∨ (∃ x, st = .word x) ∨ ∃ (w : Str) (c : Str) (ns : List Nat), (st = .make c ns ∧ w = lsS "make") ∨ (st = .opn c ns ∧ w = lsS "open") by
      cases st with
      | shown i => exact .inl ⟨i, rfl⟩
      | word x => exact .inr (.inl ⟨x, rfl⟩)
      | make c ns => exact .inr (.inr ⟨_, c, ns, .inl ⟨rfl, rfl⟩⟩)
      | opn c ns => exact .inr (.inr ⟨_, c, ns, .inr ⟨rfl, rfl⟩⟩)) with ⟨i, rfl⟩ | ⟨x, rfl⟩ | ⟨w, c, ns, hmo⟩
    · obtain ⟨a, rfl, h1⟩ := hst
      refine ⟨_, rfl, a, _, _, _, rfl, rfl, h1, ix0, rfl, _, rfl, ite2 (fun _ => ?_) (fun z => absurd (by decide) z)⟩
      have il : i < items.length := sok
      obtain ⟨y, hy, dy⟩ := dps_at hus (List.getElem?_eq_getElem il)
      refine ⟨_, rfl, _, rfl, a, _, _, _, rfl, rfl, h1, ix1, pi, _, _, _, rfl, rfl, hpi, atI_nat hy, k _ H same_rfl ?_⟩
      show Dp K H y (optD (items[i]?))
      rw [List.getElem?_eq_getElem il]
      exact dy
    · obtain ⟨a, rfl, h1⟩ := hst
      refine ⟨_, rfl, a, _, _, _, rfl, rfl, h1, ix0, rfl, _, rfl, ite2 (fun z => absurd z (by decide)) (fun _ => ?_)⟩
      refine ⟨_, rfl, a, _, _, _, rfl, rfl, h1, ix0, rfl, _, rfl, ite2 (fun _ => ?_) (fun z => absurd (by decide) z)⟩
      exact ⟨_, rfl, a, _, _, _, rfl, rfl, h1, ix1, k _ H same_rfl (.str x)⟩
    · obtain ⟨a, b, rfl, h1, h2⟩ : ∃ a b, v = .ref a ∧ SqT K H a [.str w, .str c, .ref b] ∧ SqT K H b (ns.map natV) := by
        rcases hmo with ⟨rfl, rfl⟩ | ⟨rfl, rfl⟩
        · exact hst
        · exact hst
      have nlt : ∀ m ∈ ns, m < xs.length := by
        rcases hmo with ⟨rfl, rfl⟩ | ⟨rfl, rfl⟩
        · exact sok.2
        · exact sok.2
      have w1 : ¬ decide (V.str w = V.str (PySem.Str.ofString "shown")) = true := by
        rcases hmo with ⟨_, rfl⟩ | ⟨_, rfl⟩ <;> decide
      have w2 : ¬ decide (V.str w = V.str (PySem.Str.ofString "word")) = true := by
        rcases hmo with ⟨_, rfl⟩ | ⟨_, rfl⟩ <;> decide
      have nsl : 1 ≤ ns.length ∧ ns.length ≤ 4 := by
        rcases hmo with ⟨rfl, rfl⟩ | ⟨rfl, rfl⟩
        · have := hW.kok.num _ sok.1
          dsimp only at this
          omega
        · obtain ⟨⟨o, ho, _, e⟩, _⟩ := sok
          obtain ⟨_, _, _, _, l2, _⟩ := (hW.ook.each o ho).ex
          omega
      refine ⟨_, rfl, a, _, _, _, rfl, rfl, h1, ix0, rfl, _, rfl, ite2 (fun z => absurd z w1) (fun _ => ?_)⟩
      refine ⟨_, rfl, a, _, _, _, rfl, rfl, h1, ix0, rfl, _, rfl, ite2 (fun z => absurd z w2) (fun _ => ?_)⟩
      refine ⟨_, rfl, a, _, _, _, rfl, rfl, h1, ix2, b, rfl, ⟨_, h2⟩, fun D hDn => ?_⟩
      refine lc_tup (K := K) (a := b) (xs := ns.map natV) (fun i H' => ∃ vs : List V, H' D = some (.lst vs) ∧ vs.length = i ∧ DpAll K H' vs (((ns.take i).map fun n => (xs[n]?).join).map optD) ∧ Same H H')
        ⟨[], upd_same, rfl, .nil, same_new same_rfl hDn⟩ (fun i H' _ ⟨_, _, _, _, z⟩ => kt_same z _ _ h2) ?_ ?_
      · rintro i y H1 hi ⟨vs, e1, vl, hv, s1⟩
        rw [List.getElem?_map] at hi
        obtain ⟨n, hn, rfl⟩ := Option.map_eq_some_iff.mp hi
        have nl := nlt n (List.mem_of_getElem? hn)
        have hx : xs[n]? = some xs[n] := List.getElem?_eq_getElem nl
        obtain ⟨z, hz, dz⟩ := dps_at (i := n) (d := optD xs[n]) hws (by rw [List.getElem?_map, hx]; rfl)
        have il : i < ns.length := (List.getElem?_eq_some_iff.mp hn).1
        refine ⟨rfl, ?_⟩
        unfold tYes
        dsimp only
        rw [if_pos rfl]
        have ktD : KTu K H1 (upd H1 D (.lst (vs ++ [z]))) := kt_lst e1
        refine ⟨_, rfl, _, rfl, pw, _, _, _, rfl, rfl, sqL_same s1 hpw, atI_nat hz, vs, e1, by omega, vs ++ [z], upd_same, by rw [List.length_append, vl]; rfl, ?_, same_off s1 hDn⟩
        rw [take_map_snoc hn, List.map_append]
        refine dps_app (opts_kt ktD (fun d hd => ?_) hv) (.cons ?_ .nil)
        · obtain ⟨n', hn', e'⟩ := List.mem_map.mp hd
          obtain ⟨x', e1', e2'⟩ := Option.join_eq_some_iff.mp e' |> fun h => (⟨some d, h, rfl⟩ : ∃ x', xs[n']? = some x' ∧ x' = some d)
          rw [e2'] at e1'
          exact (xok d (List.mem_of_getElem? e1')).1.th
        · rw [hx]
          show Dp K _ z (optD xs[n])
          exact opt_kt (KTu.tr (kt_same s1) ktD) (fun d e => (xok d (by rw [← e]; exact List.getElem_mem nl)).1.th) dz
      · rintro H1 ⟨vs, e1, vl, hv, s1⟩
        rw [List.length_map, List.take_of_length_le (Nat.le_refl _)] at hv
        rw [List.length_map] at vl
        have own1 : ∀ d, some d ∈ (ns.map fun n => (xs[n]?).join) → ItK ks d ∧ sz d ≤ 41 := fun d hd => by
          obtain ⟨n', hn', e'⟩ := List.mem_map.mp hd
          have e1' : xs[n']? = some (some d) := Option.join_eq_some_iff.mp e'
          exact xok d (List.mem_of_getElem? e1')
        have wS : ∀ r, (allSome (ns.map fun n => (xs[n]?).join) = none → r = none) → worthS os items xs st = r → allSome (ns.map fun n => (xs[n]?).join) = none → ∀ H', Same H H' → Q .non H' := fun r h e z H' s' => k .non H' s' (by rw [e, h z]; exact .non)
        have nolen : (ns.map fun n => (xs[n]?).join).length = ns.length := List.length_map ..
        generalize hown : (ns.map fun n => (xs[n]?).join) = own at hv own1 wS nolen
        obtain ⟨any1, any2⟩ := any_none own fun d hd => (own1 d hd).1.th
        refine ⟨_, rfl, .none, _, .non, .lst (SqL.of e1) hv, by decide +kernel, shapedO (ks := ks) fun d hd => ⟨(own1 d hd).1, by have := (own1 d hd).2; omega⟩, _, rfl, ite2 (fun hb => ?_) (fun hb => ?_)⟩
        · rw [any1] at hb
          have z := Option.isNone_iff_eq_none.mp hb
          refine wS none (fun _ => rfl) ?_ z H1 s1
          rcases hmo with ⟨rfl, rfl⟩ | ⟨rfl, rfl⟩
          · show (allSome (ns.map fun n => (xs[n]?).join)).map _ = none
            rw [hown, z]
            rfl
          · show (allSome (ns.map fun n => (xs[n]?).join)).bind _ = none
            rw [hown, z]
            rfl
        · rw [any1] at hb
          obtain ⟨l, hl⟩ : ∃ l, allSome own = some l := by
            cases h : allSome own with
            | none => exact absurd (by rw [h]; rfl) hb
            | some l => exact ⟨l, rfl⟩
          have e2 := any2 l hl
          rw [e2] at hv
          have lown : ∀ d ∈ l, ItK ks d ∧ sz d ≤ 41 := fun d hd => own1 d (by rw [allSome_some.mp hl]; exact List.mem_map_of_mem hd)
          have ll : l.length = ns.length := by rw [← nolen, allSome_some.mp hl, List.length_map]
          have lits := fun d hd => (lown d hd).1
          rcases hmo with ⟨rfl, rfl⟩ | ⟨rfl, rfl⟩
          · have wE : worthS os items xs (.make c ns) = some (.tuple (.str c :: l)) := by
              show (allSome (ns.map fun n => (xs[n]?).join)).map _ = _
              rw [hown, hl]
              rfl
            have h1' := kt_same s1 _ _ h1
            refine ⟨_, rfl, a, _, _, _, rfl, rfl, h1', ix0, rfl, _, rfl, ite2 (fun _ => ?_) (fun z => absurd (by decide) z)⟩
            refine ⟨_, rfl, a, _, _, _, rfl, rfl, h1', ix1, (by show 1 ≤ sizeLine; omega), fun q hq => ?_⟩
            first | generalize hGq : upd _ q _ = H2 | (show Ends.nx _ _ (upd _ q _); generalize hGq : upd _ q _ = H2)
            have s2 := same_of_upd hq hGq
            have e2' := at_of_upd hGq
            refine ⟨_, rfl, D, _, rfl, .inl ⟨SqL.of (s2 _ _ e1), fun u hu => ?_⟩⟩
            first | generalize hGu : upd _ u _ = H3 | (show Ends.nx _ _ (upd _ u _); generalize hGu : upd _ u _ = H3)
            have s3 := same_of_upd hu hGu
            have e3 := at_of_upd hGu
            have vne : vs ≠ [] := fun z => by rw [z] at vl; simp at vl; omega
            refine ⟨q, u, [.str c], vs, rfl, rfl, SqT.of (s3 _ _ e2'), SqT.of e3, by simp, by simp only [List.length_cons, List.length_nil]; omega, (fun z => absurd z vne), fun _ r hr4 => ?_⟩
            have s4 := same_new (o := .tup ([.str c] ++ vs)) (same_tr s1 (same_tr s2 s3)) hr4
            refine k _ _ s4 ?_
            rw [wE]
            exact .tup (SqT.of upd_same) (.cons (.str _) (its_kt (kt_same (same_new (same_tr s2 s3) hr4)) lits hv))
          · have h1' := kt_same s1 _ _ h1
            obtain ⟨⟨o, ho, ow, on⟩, _⟩ := sok
            have W1 := hW.same s1
            obtain ⟨wks, wy, ps, as, ew, hk1, hk2⟩ := W1.ex
            have al := hk2.each.length
            have ol := W1.ook.len
            refine ⟨_, rfl, a, _, _, _, rfl, rfl, h1', ix0, rfl, _, rfl, ite2 (fun z => absurd z (by decide)) (fun _ => ?_)⟩
            refine ⟨_, rfl, wd, _, rfl, gW ew, wy, rfl, ⟨_, hk2.at_⟩, fun D2 hD2 => ?_⟩
            refine lc_tup (K := K) (a := wy) (xs := as.map V.ref) (fun i H' => ∃ bs : List Addr, H' D2 = some (.lst (bs.map V.ref)) ∧ bs.length ≤ i ∧ Paired (OpnAt K H') bs ((os.take i).filter fun o => decide (o.w = c)) ∧ Same H1 H')
              ⟨[], upd_same, Nat.le_refl _, .nil, same_new same_rfl hD2⟩ (fun i H' _ ⟨_, _, _, _, z⟩ => kt_same z _ _ hk2.at_) ?_ ?_
            · rintro i y H2 hi ⟨bs, e2, bl, hp, s2⟩
              rw [List.getElem?_map] at hi
              obtain ⟨x, hx, rfl⟩ := Option.map_eq_some_iff.mp hi
              obtain ⟨o', ho', b', bb, hb1, hb2, hb3⟩ := paired_at hk2.each hx
              have il : i < as.length := (List.getElem?_eq_some_iff.mp hx).1
              have s12 := same_tr s1 s2
              refine ⟨rfl, ?_⟩
              refine ⟨_, rfl, x, _, _, _, rfl, rfl, kt_same s2 _ _ hb1, ix0, _, rfl, a, _, _, _, rfl, rfl, kt_same s12 _ _ h1, ix1, rfl, _, rfl, ite2 (fun hb => ?_) (fun hb => ?_)⟩
              · have e : o'.w = c := by
                  have := of_decide_eq_true hb
                  injection this
                refine ⟨_, rfl, _, e2, by rw [List.length_map]; omega, bs ++ [x], by rw [upd_same, List.map_append]; rfl, by rw [List.length_append]; simp; omega, ?_, same_off s2 hD2⟩
                have kt2 : KTu K H2 (upd H2 D2 (.lst (bs.map V.ref ++ [.ref x]))) := kt_lst e2
                have tk : ((os.take (i + 1)).filter fun o => decide (o.w = c)) = ((os.take i).filter fun o => decide (o.w = c)) ++ [o'] := by
                  rw [List.take_add_one, ho', List.filter_append]
                  congr 1
                  simp [e]
                rw [tk]
                exact paired_snoc (R := OpnAt K _) ⟨b', bb, kt2 _ _ (kt_same s2 _ _ hb1), kt2 _ _ (kt_same s2 _ _ hb2), paired_mono (fun x n h => kt2 _ _ (kt_same s2 _ _ h)) hb3⟩ (paired_mono (fun a o h => opn_kt kt2 h) hp)
              · have e : ¬ o'.w = c := fun z => hb (by rw [z]; exact decide_eq_true rfl)
                refine ⟨bs, e2, by omega, ?_, s2⟩
                have tk : ((os.take (i + 1)).filter fun o => decide (o.w = c)) = ((os.take i).filter fun o => decide (o.w = c)) := by
                  rw [List.take_add_one, ho', List.filter_append]
                  simp [e]
                rw [tk]
                exact hp
            · rintro H2 ⟨bs, e2, bl, hp, s2⟩
              rw [List.length_map, al, List.take_of_length_le (Nat.le_refl _)] at hp
              have s12 := same_tr s1 s2
              obtain ⟨o1, hf⟩ : ∃ o1, os.find? (fun o => decide (o.w = c)) = some o1 := by
                have : (os.find? fun o => decide (o.w = c)).isSome = true := by
                  rw [List.find?_isSome]
                  exact ⟨o, ho, decide_eq_true ow⟩
                exact Option.isSome_iff_exists.mp this
              have o1m := List.mem_of_find?_eq_some hf
              have o1w : o1.w = c := by simpa using List.find?_some hf
              have oo : o1 = o := opn_one W1.ook o1m ho (o1w.trans ow.symm)
              subst oo
              obtain ⟨x, br, rfl, ox⟩ : ∃ x br, bs = x :: br ∧ OpnAt K H2 x o1 := by
                have h0 : (os.filter fun o => decide (o.w = c)).head? = some o1 := by rw [List.head?_filter, hf]
                cases hfl : os.filter fun o => decide (o.w = c) with
                | nil => rw [hfl] at h0; cases h0
                | cons z zr =>
                  rw [hfl] at h0 hp
                  cases h0
                  cases hp with
                  | cons h _ => exact ⟨_, _, rfl, h⟩
              obtain ⟨b2, bb, hx1, hx2, hx3⟩ := ox
              obtain ⟨m1, mk1, mg0, mg1, mnl, mnd⟩ := (W1.ook.each o1 ho).ex
              refine ⟨D2, _, _, .ref x, rfl, rfl, SqL.of e2, ix0, ?_⟩
              have e12 := s2 _ _ e1
              have hv2 := its_kt (kt_same s2) lits hv
              obtain ⟨x0, rest, rfl⟩ : ∃ x0 rest, l = x0 :: rest := by
                cases l with
                | nil => simp at ll; omega
                | cons x0 rest => exact ⟨x0, rest, rfl⟩
              obtain ⟨y0, vr, rfl, dy0, dvr⟩ : ∃ y0 vr, vs = y0 :: vr ∧ Dp K H2 y0 x0 ∧ DpAll K H2 vr rest := by
                cases hv2 with
                | cons h r => exact ⟨_, _, rfl, h, r⟩
              have it0 := lits x0 (List.mem_cons_self ..)
              have wE : worthS os items xs (.opn c ns) = openS o1 (x0 :: rest) := by
                show (allSome (ns.map fun n => (xs[n]?).join)).bind _ = _
                rw [hown, hl]
                show (os.find? fun o => decide (o.w = c)).bind _ = _
                rw [hf]
                rfl
              have no : openS o1 (x0 :: rest) = none → ∀ H', Same H H' → Q .non H' := fun z H' s' => k .non H' s' (by rw [wE, z]; exact .non)
              rcases it0.cases dy0 with ⟨c0, rfl, rfl, _⟩ | ⟨q0, c0, zs, ds0, rfl, rfl, hq0, hzs, pne, mem0, kw0, ids0⟩
              · refine ⟨_, rfl, D, _, _, _, rfl, rfl, SqL.of e12, ix0, _, _, _, _, true, rfl, .ty "str", .base (.str _), kit_ty rfl, _, rfl, ite2 (fun _ => ?_) (fun z => absurd rfl z)⟩
                exact no rfl H2 s12
              · refine ⟨_, rfl, D, _, _, _, rfl, rfl, SqL.of e12, ix0, _, _, _, _, false, rfl, .ty "str", sqT_tyT hq0, kit_ty rfl, _, rfl, ite2 (fun z => absurd z (by decide)) (fun _ => ?_)⟩
                refine ⟨_, rfl, D, _, _, _, rfl, rfl, SqL.of e12, ix0, q0, _, _, .str c0, rfl, rfl, hq0, ix0, _, rfl, x, _, _, .str o1.k, rfl, rfl, hx1, ix1, rfl, _, rfl, ite2 (fun hb5 => ?_) (fun hb5 => ?_)⟩
                · refine no (open_k fun z => ?_) H2 s12
                  rw [z] at hb5
                  simp at hb5
                · have hck : c0 = o1.k := Decidable.byContradiction fun z => hb5 (by
                    simp only [Bool.not_eq_true', decide_eq_false_iff_not]
                    intro y
                    injection y with y
                    exact z y)
                  subst hck
                  have wok := opn_ok W1.kok W1.ook ho it0
                  have restI : ∀ d ∈ rest, ItK ks d ∧ sz d ≤ 41 := fun d hd => lown d (List.mem_cons_of_mem _ hd)
                  have restS : SeqAt.shaped (.list rest) = true := shapedI (ks := ks) fun d hd => ⟨(restI d hd).1, by have := (restI d hd).2; omega⟩
                  have restT : thingAll rest = true := thingAll_iff.mpr fun d hd => (restI d hd).1.th
                  have cutR : ∀ (H3 : Hp) (R : V → Hp → Prop), Same H2 H3 → (∀ q H4, Same H3 H4 → H4 q = some (.lst vr) → R (.ref q) H4) → ∀ q, H3 q = none → R (.ref q) (upd H3 q (.lst vr)) := fun H3 R s3 h q hq => h q _ (same_new same_rfl hq) upd_same
                  refine ⟨_, rfl, _, rfl, _, rfl, D, _, _, _, rfl, rfl, SqL.of e12, ix0, .ref wd, x, .ref q0, o1, o1.k, ds0, _, ks, rfl, ⟨b2, bb, hx1, hx2, hx3⟩, dy0, it0, rfl, wok.nd, wok.len, W1.kok.ww, fun l' p us' H3 hl' s3 np ep hdl => ?_, fun H3 hl' s3 => ?_⟩
                  · refine ⟨_, rfl, _, rfl, D, _, rfl, SqL.of (s3 _ _ e12), fun q hq => ?_⟩
                    rw [cut1']
                    first | generalize hGq : upd _ q _ = H4 | (show Ends.nx _ _ (upd _ q _); generalize hGq : upd _ q _ = H4)
                    have s4 := same_of_upd hq hGq
                    have e4 := at_of_upd hGq
                    have l'I : ∀ d ∈ l', ItK ks d ∧ sz d ≤ 42 := fun d hd => by
                      have md : some d ∈ o1.nn.map fun n => wantD n ds0 := by rw [allSome_some.mp hl']; exact List.mem_map_of_mem hd
                      obtain ⟨n', hn', e'⟩ := List.mem_map.mp md
                      have x0s := (lown _ (List.mem_cons_self ..)).2
                      exact want_it (k := 41) W1.kok.ww (fun d hd => ⟨ids0 d hd, by have : sz d + 1 ≤ sz (.tuple (.str o1.k :: ds0)) := kid_sz (show d ∈ kids (.tuple (.str o1.k :: ds0)) from hd); omega⟩) (wok.nd n' hn') e'
                    refine ⟨_, _, .lst (SqL.of (s4 _ _ ep)) (its_kt (kt_same s4) (fun d hd => (l'I d hd).1) hdl), .lst (SqL.of e4) (its_kt (kt_same (same_tr s3 s4)) (fun d hd => (restI d hd).1) dvr), shapedI (ks := ks) (fun d hd => ⟨(l'I d hd).1, by have := (l'I d hd).2; omega⟩), restS, _, rfl, ?_⟩
                    have eqq := eqv_lists (l := l') (r := rest) (thingAll_iff.mpr fun d hd => (l'I d hd).1.th) restT (lays_iff.mpr fun d hd => (l'I d hd).1.lay)
                    have s24 := same_tr s3 s4
                    by_cases hlr : l' = rest
                    · rw [eqq.mpr hlr]
                      obtain ⟨y, dd, hv', hdd, hdy⟩ := dps_get (its_kt (kt_same s24) ids0 hzs) rfl wok.g0 wok.g1 (.str o1.k)
                      refine ⟨_, rfl, D, _, _, _, rfl, rfl, SqL.of (s24 _ _ e12), ix0, _, rfl, x, _, _, _, rfl, rfl, kt_same s24 _ _ hx1, ix2, _, _, rfl, rfl, q0, _, _, _, rfl, rfl, kt_same s24 _ _ hq0, hv', k _ H4 (same_tr s12 s24) ?_⟩
                      rw [wE, open_yes (by rw [hl', hlr]), hdd]
                      exact hdy
                    · have : PyData.eqv (.list l') (.list rest) = false := by
                        cases h : PyData.eqv (.list l') (.list rest) with
                        | false => rfl
                        | true => exact absurd (eqq.mp h) hlr
                      rw [this]
                      exact no (open_no fun z => hlr (by rw [hl'] at z; injection z)) H4 (same_tr s12 s24)
                  · refine ⟨_, rfl, _, rfl, D, _, rfl, SqL.of (s3 _ _ e12), fun q hq => ?_⟩
                    rw [cut1']
                    first | generalize hGq : upd _ q _ = H4 | (show Ends.nx _ _ (upd _ q _); generalize hGq : upd _ q _ = H4)
                    have s4 := same_of_upd hq hGq
                    have e4 := at_of_upd hGq
                    refine ⟨.none, _, .non, .lst (SqL.of e4) (its_kt (kt_same (same_tr s3 s4)) (fun d hd => (restI d hd).1) dvr), by decide +kernel, restS, _, rfl, ?_⟩
                    exact no (open_no fun z => by rw [hl'] at z; cases z) H4 (same_tr s12 (same_tr s3 s4))
end
end K15


set_option Elab.async false
set_option linter.all false
set_option maxRecDepth 100000
set_option maxHeartbeats 1000000
namespace K15
open PySem PySem.Spec PyProof.Rows L2 Mine TL StX SkE
/-! A drawn step that opens. -/
abbrev sOpener : Stmt := top 31
def spOpener (K : PySem.W.Frag) : Sp := fun vs H Q _ => ∃ (dk dl wd pw : Addr) (t : Int) (ws : List V) (xs : List (Option PyData)) (ks : List (Str × Int)) (os : List Opn), vs = [.ref dk, .ref wd, .ref pw] ∧ DeckAt H dk dl t ∧ WorldAt K H wd ks os ∧ 0 ≤ t ∧ t ≤ 90000 ∧
  H pw = some (.lst ws) ∧ pw ≠ dl ∧ DpAll K H ws (xs.map optD) ∧ (∀ d, some d ∈ xs → ItK ks d ∧ sz d ≤ 41) ∧ xs.length ≤ 60 ∧ ∀ v t' H', DeckAt H' dk dl t' → t ≤ t' → t' ≤ t + 10 → Keep dk dl H H' → (v = .non ∨ ∃ c ns, StAt K H' v (.opn c ns) ∧ StOk ks os 0 xs.length (.opn c ns)) → Q v H'
section
variable {P : Program} {w : World} {K : PySem.W.Frag} {mg : Str → Option Value} {base : Heap}
abbrev nOpener : List Str := ["_law_deck_here", "_law_w", "_law_worths_here", "_law_spots", "_law_at", "_law_way", "_law_needs", "_law_numbers", "_law_k", "_law_fit", "_law_spot"]
theorem scOpener : FnScope nOpener ["_law_deck_here", "_law_w", "_law_worths_here"] (defScope sOpener) := ⟨rfl, rfl, rfl, by decide +kernel, rfl, by decide +kernel, by decide +kernel⟩
theorem ok_Opener  {f : Addr} {fd : FuncData} (F : Fun K "_law_opener" "_law_opener" sOpener f fd) (B : Bi mg) (u_draw : Use P w K mg base 1 "_law_draw" ["_law_deck_here", "_law_many"] spDraw) (u_pick : Use P w K mg base 2 "_law_pick" ["_law_deck_here", "_law_some"] (spPickA K)) (u_wants : Use P w K mg base 1 "_law_wants" ["_law_w", "_law_way", "_law_it"] (spWants K)) (u_waysat : Use P w K mg base 1 "_law_ways_at" ["_law_w", "_law_it"] (spWays K)) : FnOk P w K mg base CX0 (3) f fd ["_law_deck_here", "_law_w", "_law_worths_here"] (spOpener K) := by
  refine F.ok scOpener (fun vs H Q E h => ?_) (fun cdv A outer s H vs Q E hr h => ?_)
  · obtain ⟨dk, dl, wd, pw, t, ws, xs, ks, os, rfl, _⟩ := h
    rfl
  · obtain ⟨dk, dl, wd, pw, t, ws, xs, ks, os, rfl, hD, hW, t0, t1, hpw, pwl, hws, xok, x60, k⟩ := h
    have line : sizeLine = 16777216 := sizeLine_eq
    refine ⟨_, (pss_cons (ps_setLc (i := 3) (own := [("_law_k", 8)]) (g := (gName 8)) rfl scOpener.nd rfl rfl (sw_true rfl rfl rfl (by decide +kernel)) (pi_range1 rfl B.range (pa_cons (pe_callB call_len_seq (by rfl) B.len PySem.boot_len (pa_cons (pv 2) pa_nil)) pa_nil)) (blkOk_by (own := [("_law_k", 8)]) (N := nOpener) (sc := defScope sOpener) (by decide +kernel)) (fun _ _ _ _ _ => (pg_name (i := 8) scOpener.nd rfl (Or.inl rfl))) (fun _ _ _ _ _ => (pts_one (PW.pt (pw_and (pt_cmpR op_notN (pe_ix (show IxR _ (rIxL K) from ix_list) (pv 2) (pv 8) (fun _ _ => rfl)) pe_non (nomark _)) (pw_and1 (pt_cmpR (op_neDK (K := K) rfl hr.units) (pe_use u_waysat (hr.mono (by omega)) rfl (pa_cons (pv 1) (pa_cons (pe_ix (show IxR _ (rIxL K) from ix_list) (pv 2) (pv 8) (fun _ _ => rfl)) pa_nil))) (pe_lst pa_nil) (nomark _))))))) (fun _ _ _ _ _ => (pv 8)))
      (pss_cons (ps_if (PW.pt (pw_or (pt_cmpR (op_eqD hr.units) (pv 3) (pe_lst pa_nil) (nomark _)) (pw_or1 (pt_cmpR (op_eqD hr.units) (pe_dget (hu_of hr) (pv 1) pe_str (fun _ _ => rfl)) (pe_tup pa_nil) (nomark _))))) (pss_one (ps_ret pe_non)) pss_nil)
      (pss_cons (ps_set (i := 4) scOpener.nd rfl (.inl rfl) (pe_use u_pick (hr.mono (by omega)) rfl (pa_cons (pv 0) (pa_cons (pv 3) pa_nil))))
      (pss_cons (ps_set (i := 5) scOpener.nd rfl (.inl rfl) (pe_use u_pick (hr.mono (by omega)) rfl (pa_cons (pv 0) (pa_cons (pe_use u_waysat (hr.mono (by omega)) rfl (pa_cons (pv 1) (pa_cons (pe_ix ix_list (pv 2) (pv 4) (fun _ _ => rfl)) pa_nil))) pa_nil))))
      (pss_cons (ps_cut (ps_asg (pe_tup (pa_cons (pe_use u_wants (hr.mono (by omega)) rfl (pa_cons (pv 1) (pa_cons (pv 5) (pa_cons (pe_ix ix_list (pv 2) (pv 4) (fun _ _ => rfl)) pa_nil)))) (pa_cons (pe_lst (pa_cons (pv 4) pa_nil)) pa_nil))) (pg_tup rfl (pgs_cons (pg_name (i := 6) scOpener.nd rfl (Or.inr rfl)) (pgs_cons (pg_name (i := 7) scOpener.nd rfl (Or.inl rfl)) pgs_nil)))))
      (pss_cons (ps_for PassesOwn.never rfl (pi_range1 rfl B.range (pa_cons (pe_callB call_len_seq (by rfl) B.len PySem.boot_len (pa_cons (pe_ix ix_tup (pv 5) pe_int (fun _ _ => rfl)) pa_nil)) pa_nil)) (pg_name (i := 8) scOpener.nd rfl (Or.inr rfl))
        (pss_cons (ps_setLc (i := 9) (own := [("_law_spot", 10)]) (g := (gName 10)) rfl scOpener.nd rfl rfl (sw_true rfl rfl rfl (by decide +kernel)) (pi_range1 rfl B.range (pa_cons (pe_callB call_len_seq (by rfl) B.len PySem.boot_len (pa_cons (pv 2) pa_nil)) pa_nil)) (blkOk_by (own := [("_law_spot", 10)]) (N := nOpener) (sc := defScope sOpener) (by decide +kernel)) (fun _ _ _ _ _ => (pg_name (i := 10) scOpener.nd rfl (Or.inl rfl))) (fun _ _ _ _ _ => (pts_one (PW.pt (pw_and (pt_cmpR op_notN (pv 6) pe_non (nomark _)) (pw_and1 (pt_cmpR (op_eqDK (K := K) rfl hr.units) (pe_ix (show IxR _ (rIxL K) from ix_list) (pv 2) (pv 10) (fun _ _ => rfl)) (pe_ix (show IxR _ (rIxL K) from ix_list) (pv 6) (pv 8) (fun _ _ => rfl)) (nomark _))))))) (fun _ _ _ _ _ => (pv 10)))
      (pss_one (ps_expr (pe_bm PySem.F.plainAttrs_list PySem.F.slot_list_append PySem.F.type_list_append mt_append (pv 7) (pa_cons (pe_use u_pick (hr.mono (by omega)) rfl (pa_cons (pv 0) (pa_cons (pe_cut (pe_ifExp (PW.pt (pw_and (pt_cmpR (op_neD hr.units) (pv 9) (pe_lst pa_nil) (nomark _)) (pw_and1 (pt_cmpR op_gt (pe_use u_draw (hr.mono (by omega)) rfl (pa_cons (pv 0) (pa_cons pe_int pa_nil))) pe_int (nomark _))))) (pv 9) (pe_listRg rfl rfl B.list (prg_1 rfl B.range (pe_callB call_len_seq (by rfl) B.len PySem.boot_len (pa_cons (pv 2) pa_nil)))))) pa_nil))) pa_nil))))))
      (pss_one (ps_ret (pe_tup (pa_cons pe_str (pa_cons (pe_ix ix_tup (pv 5) pe_int (fun _ _ => rfl)) (pa_cons (pe_callTy call_tuple_of (by rfl) B.tuple (by decide +kernel) (pa_cons (pv 7) pa_nil)) pa_nil)))))))))))), ?_⟩
    have xl := dps_len hws
    rw [List.length_map] at xl
    have pwk : pw ≠ dk := by
      obtain ⟨⟨m, e, _⟩, _⟩ := hD
      exact ne_of hpw e (by intro z; cases z)
    have get : ∀ (m : Nat) (x : Option PyData), xs[m]? = some x → ∃ v, ws[m]? = some v ∧ Dp K H v (optD x) := fun m x hx => dps_at hws (by rw [List.getElem?_map, hx]; rfl)
    refine ⟨_, rfl, pw, ws, rfl, .inl (SqL.of hpw), _, rfl, by omega, by omega, fun D hDn => ?_⟩
    have doff := hD.off hDn
    refine lc_range (lo := 0) (n := ws.length) (fun i H' => ∃ sp : List Nat, H' D = some (.lst (sp.map natV)) ∧ sp.length ≤ i ∧ (∀ m ∈ sp, ∃ d, xs[m]? = some (some d) ∧ waysAt os d ≠ []) ∧ Same H H') ⟨[], upd_same, Nat.le_refl _, (fun _ z => (List.not_mem_nil z).elim), same_new same_rfl hDn⟩ ?_ ?_
    · rintro i H1 hi ⟨sp, e1, spl, spo, s1⟩
      have hi' : i < ws.length := hi
      have hx : xs[i]? = some xs[i] := List.getElem?_eq_getElem (by omega)
      obtain ⟨v, hv, dv⟩ := get i _ hx
      generalize xs[i] = x at hx dv
      have W1 := hW.same s1
      refine ⟨rfl, _, rfl, _, rfl, pw, _, _, _, rfl, rfl, SqL.of (s1 _ _ hpw), at_zero hv, rfl, _, rfl, ?_⟩
      cases x with
      | none =>
        cases dv
        exact ⟨sp, e1, by omega, spo, s1⟩
      | some d =>
        have it := (xok d (List.mem_of_getElem? hx)).1
        have dv1 : Dp K H1 v d := th_kt (kt_same s1) d v it.th dv
        have vne : decide (v = V.non) = false := by
          rcases it.cases dv1 with ⟨c, _, rfl, _⟩ | ⟨a, _, _, _, _, rfl, _⟩ <;> rfl
        rw [vne]
        refine ⟨_, rfl, _, rfl, _, rfl, pw, _, _, _, rfl, rfl, SqL.of (s1 _ _ hpw), at_zero hv, wd, v, ks, os, d, rfl, W1, dv1, it, fun p as H2 s2 np ep hp => ?_⟩
        refine ⟨Nat.zero_le _, fun e he => ?_⟩
        first | generalize hGe : upd _ e _ = H3 | (show Ends.nx _ _ (upd _ e _); generalize hGe : upd _ e _ = H3)
        have s3 := same_of_upd he hGe
        have e3 := at_of_upd hGe
        have hp3 := paired_mono (fun a o h => OpnAt.same s3 h) hp
        refine ⟨_, _, .lst (SqL.of (s3 _ _ ep)) (opns_dp hp3), .lst (SqL.of e3) .nil, opns_shapedL W1.kok W1.ook ways_sub, shapedNil, _, rfl, ?_⟩
        rw [eqv_nil]
        have e13 := s3 _ _ (s2 _ _ e1)
        have s13 := same_tr s1 (same_tr s2 s3)
        cases hwa : waysAt os d with
        | nil => exact ⟨sp, e13, by omega, spo, s13⟩
        | cons o0 orr =>
          refine ⟨_, rfl, _, e13, by rw [List.length_map]; omega, sp ++ [i], ?_, by rw [List.length_append]; simp; omega, fun m hm => ?_, same_off s13 hDn⟩
          · rw [upd_same, List.map_append, Int.zero_add]
            rfl
          · rcases List.mem_append.mp hm with h | h
            · exact spo m h
            · rw [List.mem_singleton.mp h]
              exact ⟨d, hx, by rw [hwa]; simp⟩
    · rintro H1 ⟨sp, e1, spl, spo, s1⟩
      have D1 := deck_same hD s1
      refine ⟨_, rfl, Nat.zero_le _, fun e he => ?_⟩
      first | generalize hGe : upd _ e _ = H2 | (show Ends.nx _ _ (upd _ e _); generalize hGe : upd _ e _ = H2)
      have s2 := same_of_upd he hGe
      have e2 := at_of_upd hGe
      have s12 := same_tr s1 s2
      have e12 := s2 _ _ e1
      refine ⟨_, _, .lst (SqL.of e12) (nats_dp sp), .lst (SqL.of e2) .nil, nats_shaped sp, shapedNil, _, rfl, ?_⟩
      rw [eqv_nil]
      rcases Decidable.em (sp = []) with hsp | spne
      · rw [hsp]
        exact k .non t H2 (deck_same hD s12) (by omega) (by omega) (same_keep s12) (.inl rfl)
      · rw [isE_map spne]
        obtain ⟨m0, mm0⟩ := List.exists_mem_of_ne_nil _ spne
        obtain ⟨d0, hd0, hw0⟩ := spo m0 mm0
        have W2 := hW.same s12
        obtain ⟨wks, wy, ps, as, ew, hk1, hk2⟩ := W2.ex
        refine ⟨_, rfl, wd, _, rfl, gW ew, Nat.zero_le _, fun e' he' => ?_⟩
        first | generalize hGe' : upd _ e' _ = H3 | (show Ends.nx _ _ (upd _ e' _); generalize hGe' : upd _ e' _ = H3)
        have s3 := same_of_upd he' hGe'
        have e3 := at_of_upd hGe'
        have D3 := deck_same hD (same_tr s12 s3)
        have one : (os.map opD).isEmpty = false := by
          cases hos : os with
          | nil =>
            obtain ⟨o, ho⟩ := List.exists_mem_of_ne_nil _ hw0
            have := ways_sub o ho
            rw [hos] at this
            exact (List.not_mem_nil this).elim
          | cons _ _ => rfl
        refine ⟨_, _, .tup (kt_same s3 _ _ hk2.at_) (opns_dp (paired_mono (fun a o h => OpnAt.same s3 h) hk2.each)), .tup (SqT.of e3) .nil, opns_shaped W2.kok W2.ook, shapedNilT, _, rfl, ?_⟩
        rw [eqv_nilT, one]
        have s13 := same_tr s12 s3
        refine ⟨_, rfl, _, rfl, .inl ⟨dk, dl, D, t, _, rfl, D3, doff.2, s3 _ _ e12, by simpa using spne, by rw [List.length_map]; omega, by omega, by omega, fun y H4 hy D4 K4 => ?_⟩⟩
        obtain ⟨m, hm, rfl⟩ := List.mem_map.mp hy
        obtain ⟨d, hxm, hwm⟩ := spo m hm
        obtain ⟨v, hv, dv⟩ := get m _ hxm
        have ml : m < xs.length := (List.getElem?_eq_some_iff.mp hxm).1
        obtain ⟨it, isz⟩ := xok d (List.mem_of_getElem? hxm)
        have K04 : Keep dk dl H H4 := (same_keep s13).trans K4
        have W4 := hW.keep hD K04
        have hpw4 := K04 _ _ pwk pwl hpw
        have dv4 : Dp K H4 v d := th_keep it hD K04 dv
        refine ⟨_, rfl, _, rfl, _, rfl, _, rfl, pw, _, _, _, rfl, rfl, SqL.of hpw4, atI_nat hv, wd, v, ks, os, d, rfl, W4, dv4, it, fun p as4 H5 s5 np ep hp => ?_⟩
        have D5 := deck_same D4 s5
        have poff := D4.off np
        have asl := hp.length
        have wl := ways_len (os := os) (d := d)
        have ol := W4.ook.len
        refine .inl ⟨dk, dl, p, t + 1, _, rfl, D5, poff.2, ep, (fun z => hwm (List.length_eq_zero_iff.mp (by rw [← asl, List.map_eq_nil_iff.mp z]; rfl))), by rw [List.length_map]; omega, by omega, by omega, fun y H6 hy6 D6 K6 => ?_⟩
        obtain ⟨x, hx, rfl⟩ := List.mem_map.mp hy6
        obtain ⟨o, ho, hox5⟩ := paired_mem1 hp hx
        have hox := opn_kt (kt_keep D5 K6) hox5
        have K46 : Keep dk dl H4 H6 := (same_keep s5).trans K6
        have K06 := K04.trans K46
        have W6 := hW.keep hD K06
        obtain ⟨c, ds, rfl, wok⟩ := way_ok W6.kok W6.ook it ho
        have hpw6 := K06 _ _ pwk pwl hpw
        have dv6 := th_keep it hD K06 dv
        obtain ⟨b2, bb, hx1, hx2, hx3⟩ := id hox
        have bl := hx3.length
        have bn := wok.len
        refine ⟨fun σ' H' => ∃ (vn : V) (nb : Addr), σ' = [some (.ref dk), some (.ref wd), some (.ref pw), some (.ref D), some (natV m), some (.ref x), some vn, some (.ref nb), none, none, none] ∧ H' nb = some (.lst [natV m]) ∧ H6 nb = none ∧ Same H6 H' ∧ ((vn = .non) ∨ ∃ (q : Addr) (us : List V) (l : List PyData), vn = .ref q ∧ q ≠ nb ∧ H' q = some (.lst us) ∧ DpAll K H' us l ∧ wantsD o ds = some l ∧ q ≠ dk ∧ q ≠ dl), ?_, ?_⟩
        · refine ⟨_, rfl, _, rfl, _, rfl, _, rfl, pw, _, _, _, rfl, rfl, SqL.of hpw6, atI_nat hv, .ref wd, x, v, o, c, ds, _, ks, rfl, hox, dv6, it, rfl, wok.nd, wok.len, W6.kok.ww, fun l q us H7 hl s7 nq eq hq => ?_, fun H7 hl s7 => ?_⟩
          · refine ⟨_, rfl, (by show 1 ≤ sizeLine; omega), fun nb hnb => ?_⟩
            first | generalize hGnb : upd _ nb _ = H8 | (show Ends.nx _ _ (upd _ nb _); generalize hGnb : upd _ nb _ = H8)
            have s8 := same_of_upd hnb hGnb
            have e8 := at_of_upd hGnb
            have qoff := D6.off nq
            refine ⟨(by show 2 ≤ sizeLine; omega), fun tt htt => ?_⟩
            first | generalize hGtt : upd _ tt _ = H9 | (show Ends.nx _ _ (upd _ tt _); generalize hGtt : upd _ tt _ = H9)
            have s9 := same_of_upd htt hGtt
            have e9 := at_of_upd hGtt
            refine ⟨tt, _, rfl, SqT.of e9, rfl, _, _, rfl, _, _, rfl, rfl, ?_⟩
            refine ⟨.ref q, nb, rfl, s9 _ _ e8, same_free s7 hnb, same_tr s7 (same_tr s8 s9), .inr ⟨q, us, l, rfl, ne_of_none eq hnb, s9 _ _ (s8 _ _ eq), its_kt (kt_same (same_tr s8 s9)) (wants_it W6.kok.ww it.kid.2.2 wok.nd hl) hq, hl, qoff.1, qoff.2⟩⟩
          · refine ⟨_, rfl, (by show 1 ≤ sizeLine; omega), fun nb hnb => ?_⟩
            first | generalize hGnb : upd _ nb _ = H8 | (show Ends.nx _ _ (upd _ nb _); generalize hGnb : upd _ nb _ = H8)
            have s8 := same_of_upd hnb hGnb
            have e8 := at_of_upd hGnb
            refine ⟨(by show 2 ≤ sizeLine; omega), fun tt htt => ?_⟩
            first | generalize hGtt : upd _ tt _ = H9 | (show Ends.nx _ _ (upd _ tt _); generalize hGtt : upd _ tt _ = H9)
            have s9 := same_of_upd htt hGtt
            have e9 := at_of_upd hGtt
            refine ⟨tt, _, rfl, SqT.of e9, rfl, _, _, rfl, _, _, rfl, rfl, ?_⟩
            exact ⟨.non, nb, rfl, s9 _ _ e8, same_free s7 hnb, same_tr s7 (same_tr s8 s9), .inl rfl⟩
        · rintro σ' H7 ⟨vn, nb, rfl, e7, nnb, s67, hvn⟩
          have D7 := deck_same D6 s67
          have nboff := D6.off nnb
          have nbpw : nb ≠ pw := (ne_of_none hpw6 nnb).symm
          have nH : H nb = none := DeckAt.dom' K06 nnb nboff.1 nboff.2
          have kt7 := kt_same (K := K) s67
          have hx17 := kt7 _ _ hx1
          refine ⟨_, rfl, x, _, _, _, rfl, rfl, hx17, ix3, b2, _, rfl, .inr (kt7 _ _ hx2), _, rfl, by rw [List.length_map]; omega, by rw [List.length_map]; omega, ?_⟩
          have wantL : ∀ d' ∈ (wantsD o ds).getD [], ItK ks d' ∧ sz d' ≤ 42 := fun d' hd' => by
            cases hl : wantsD o ds with
            | none => rw [hl] at hd'; exact (List.not_mem_nil hd').elim
            | some l =>
              rw [hl] at hd'
              have md : some d' ∈ o.nn.map fun n => wantD n ds := by rw [allSome_some.mp hl]; exact List.mem_map_of_mem hd'
              obtain ⟨n', hn', e'⟩ := List.mem_map.mp md
              exact want_it (k := 41) W6.kok.ww (fun z hz => ⟨it.kid.2.2 z hz, by have : sz z + 1 ≤ sz (.tuple (.str c :: ds)) := kid_sz (show z ∈ kids (.tuple (.str c :: ds)) from hz); omega⟩) (wok.nd n' hn') e'
          refine for_range (lo := 0) (n := (bb.map V.ref).length) (fun i σ H' => ∃ (ns : List Nat) (t' : Int) (o8 o9 : Option V), σ = [some (.ref dk), some (.ref wd), some (.ref pw), some (.ref D), some (natV m), some (.ref x), some vn, some (.ref nb), o8, o9, none] ∧ H' nb = some (.lst (ns.map natV)) ∧ ns.length = 1 + i ∧ (∀ m ∈ ns, m < xs.length) ∧ DeckAt H' dk dl t' ∧ t + 2 ≤ t' ∧ t' ≤ t + 2 + 2 * (i : Int) ∧ Keep dk dl H H' ∧ KTu K H7 H' ∧ (∀ (q : Addr) (u : HO), q ≠ dk → q ≠ dl → q ≠ nb → H7 q = some u → H' q = some u))
            ⟨[m], t + 2, none, none, rfl, e7, rfl, (fun z hz => by rw [List.mem_singleton.mp hz]; exact ml), (by have := D7; rw [show t + 2 = t + 1 + 1 by omega]; exact this), by omega, by omega, K06.trans (same_keep s67), KTu.refl, fun _ _ _ _ _ h => h⟩ ?_ ?_
          · rintro i σ H8 hi ⟨ns, t8, o8, o9, rfl, e8, nl, nlt, D8, ta, tb, K8, kt8, st8⟩
            have i2 : i < 2 := by rw [List.length_map] at hi; omega
            have hpw8 := K8 _ _ pwk pwl hpw
            refine ⟨_, rfl, pw, ws, rfl, .inl (SqL.of hpw8), _, rfl, by omega, by omega, fun E hE => ?_⟩
            have eoff := D8.off hE
            have enb : E ≠ nb := (ne_of_none e8 hE).symm
            refine lc_range (lo := 0) (n := ws.length) (fun j H' => ∃ ft : List Nat, H' E = some (.lst (ft.map natV)) ∧ ft.length ≤ j ∧ (∀ m ∈ ft, m < xs.length) ∧ Same H8 H') ⟨[], upd_same, Nat.le_refl _, (fun _ z => (List.not_mem_nil z).elim), same_new same_rfl hE⟩ ?_ ?_
            · rintro j H9 hj ⟨ft, e9, fl, flt, s9⟩
              have hj' : j < ws.length := hj
              have hx' : xs[j]? = some xs[j] := List.getElem?_eq_getElem (by omega)
              obtain ⟨v', hv', dv'⟩ := get j _ hx'
              generalize xs[j] = x' at hx' dv'
              rcases hvn with rfl | ⟨q, us, l, rfl, qnb, eq, hq, hl, qk, ql⟩
              · exact ⟨rfl, _, rfl, rfl, _, rfl, ft, e9, by omega, flt, s9⟩
              · have ll : l.length = bb.length := by
                  have e := congrArg List.length (allSome_some.mp hl)
                  rw [List.length_map, List.length_map] at e
                  omega
                have il : i < l.length := by rw [List.length_map] at hi; omega
                obtain ⟨vq, hvq, dq⟩ := dps_at hq (List.getElem?_eq_getElem il)
                have mq : l[i] ∈ l := List.getElem_mem il
                have wq := wantL l[i] (by rw [hl]; exact mq)
                generalize l[i] = dqq at dq wq mq
                have kt79 : KTu K H7 H9 := KTu.tr kt8 (kt_same s9)
                have dv9 : Dp K H9 v' (optD x') := opt_kt (KTu.tr (kt_keep hD K8) (kt_same s9)) (fun d e => (xok d (by rw [← e]; exact List.mem_of_getElem? hx')).1.th) dv'
                have sx : SeqAt.shaped (optD x') = true := by
                  cases x' with
                  | none => exact shapedNon
                  | some z => exact (xok z (List.mem_of_getElem? hx')).1.shaped (by have := (xok z (List.mem_of_getElem? hx')).2; omega)
                refine ⟨rfl, _, rfl, rfl, _, rfl, ?_⟩
                refine ⟨_, rfl, _, rfl, pw, _, _, _, rfl, rfl, SqL.of (s9 _ _ hpw8), at_zero hv', _, rfl, _, rfl, q, _, _, _, rfl, rfl, SqL.of (s9 _ _ (st8 _ _ qk ql qnb eq)), at_zero hvq, _, _, dv9, th_kt kt79 _ _ wq.1.th dq, sx, wq.1.shaped (by omega), _, rfl, ?_⟩
                cases PyData.eqv (optD x') dqq with
                | false => exact ⟨ft, e9, by omega, flt, s9⟩
                | true =>
                  refine ⟨_, rfl, _, e9, by rw [List.length_map]; omega, ft ++ [j], ?_, by rw [List.length_append]; simp; omega, fun z hz => ?_, same_off s9 hE⟩
                  · rw [upd_same, List.map_append, Int.zero_add]
                    rfl
                  · rcases List.mem_append.mp hz with h | h
                    · exact flt z h
                    · rw [List.mem_singleton.mp h]
                      omega
            · rintro H9 ⟨ft, e9, fl, flt, s9⟩
              have D9 := deck_same D8 s9
              refine ⟨_, rfl, .inl ⟨rfl, _, SqL.of (s9 _ _ e8)⟩, _, rfl, fun v' H' => ∃ (q : Addr) (ms : List Nat) (t' : Int), v' = .ref q ∧ H' q = some (.lst (ms.map natV)) ∧ q ≠ dl ∧ ms ≠ [] ∧ ms.length ≤ 100 ∧ (∀ m ∈ ms, m < xs.length) ∧ DeckAt H' dk dl t' ∧ t8 ≤ t' ∧ t' ≤ t8 + 1 ∧ Keep dk dl H9 H', ?_, ?_⟩
              · refine ⟨_, rfl, Nat.zero_le _, fun e' he' => ?_⟩
                first | generalize hGe' : upd _ e' _ = HA | (show Ends.nx _ _ (upd _ e' _); generalize hGe' : upd _ e' _ = HA)
                have sA := same_of_upd he' hGe'
                have eA := at_of_upd hGe'
                have DA := deck_same D9 sA
                have hpwA := sA _ _ (s9 _ _ hpw8)
                refine ⟨_, _, .lst (SqL.of (sA _ _ e9)) (nats_dp ft), .lst (SqL.of eA) .nil, nats_shaped ft, shapedNil, _, rfl, ?_⟩
                rw [eqv_nil]
                have all : ∀ (HB : Hp) (t' : Int), DeckAt HB dk dl t' → t8 ≤ t' → t' ≤ t8 + 1 → Keep dk dl H9 HB → HB pw = some (.lst ws) → tLstRg (tRg1 (tCB (fun xs H Q => ∃ p ys, xs = [V.ref p] ∧ (SqL K H p ys ∨ SqT K H p ys) ∧ Q (V.int ys.length) H) (tCons (tVar 2) tNil))) [some (.ref dk), some (.ref wd), some (.ref pw), some (.ref D), some (natV m), some (.ref x), some vn, some (.ref nb), some (.int (0 + (i : Int))), some (.ref E), none] HB (fun v' H' => ∃ (q : Addr) (ms : List Nat) (t' : Int), v' = .ref q ∧ H' q = some (.lst (ms.map natV)) ∧ q ≠ dl ∧ ms ≠ [] ∧ ms.length ≤ 100 ∧ (∀ m ∈ ms, m < xs.length) ∧ DeckAt H' dk dl t' ∧ t8 ≤ t' ∧ t' ≤ t8 + 1 ∧ Keep dk dl H9 H') := fun HB t' DB xa xb KB hB => by
                  refine ⟨_, rfl, pw, ws, rfl, .inl (SqL.of hB), _, rfl, RgOk.of_le (by omega) (by omega) (by omega) (by omega), fun q hq => ?_⟩
                  refine ⟨q, List.range ws.length, t', rfl, by rw [upd_same, rg_nats], (DB.off hq).2, (fun z => ?_), by rw [List.length_range]; omega, fun z hz => by have := List.mem_range.mp hz; omega, DB.new hq, xa, xb, KB.new hq⟩
                  have := congrArg List.length z
                  rw [List.length_range] at this
                  simp at this
                  have : ws = [] := this
                  rw [this] at xl
                  simp at xl
                  omega
                rcases Decidable.em (ft = []) with hft | hft
                · rw [hft]
                  exact all HA t8 DA (by omega) (by omega) (same_keep sA) hpwA
                · rw [isE_map hft]
                  refine ⟨_, rfl, dk, dl, 5, t8, rfl, DA, by decide, by decide, by omega, by omega, fun r HB r0 r1 DB KB => ⟨_, _, rfl, rfl, _, rfl, ?_⟩⟩
                  have eB := KB _ _ eoff.1 eoff.2 (sA _ _ e9)
                  have K9B : Keep dk dl H9 HB := (same_keep sA).trans KB
                  cases decide (r > 0) with
                  | true => exact ⟨_, rfl, E, ft, t8 + 1, rfl, eB, eoff.2, hft, by omega, flt, DB, by omega, by omega, K9B⟩
                  | false => exact all HB _ DB (by omega) (by omega) K9B (KB _ _ pwk pwl hpwA)
              · rintro v' HA ⟨q, ms, tA, rfl, eA, qdl, mne, m100, mlt, DA, xa, xb, KA⟩
                refine .inl ⟨dk, dl, q, tA, _, rfl, DA, qdl, eA, by simpa using mne, by rw [List.length_map]; exact m100, by omega, by omega, fun y HB hy DB KB => ?_⟩
                obtain ⟨m', hm', rfl⟩ := List.mem_map.mp hy
                have K9B := KA.trans KB
                have eB := K9B _ _ nboff.1 nboff.2 (s9 _ _ e8)
                refine ⟨nb, _, _, rfl, rfl, eB, by rw [List.length_map]; omega, ns ++ [m'], tA + 1, _, _, rfl, by rw [upd_same, List.map_append]; rfl, by rw [List.length_append, nl]; simp; omega, fun z hz => ?_, DB.set nboff.1 nboff.2, by omega, by omega, keep_off (K8.trans ((same_keep s9).trans K9B)) nH, KTu.tr kt8 (KTu.tr (kt_same s9) (KTu.tr (kt_keep D9 K9B) (kt_lst eB))), fun z u h1 h2 h3 h => (upd_ne h3).trans (K9B _ _ h1 h2 (s9 _ _ (st8 z u h1 h2 h3 h)))⟩
                rcases List.mem_append.mp hz with h | h
                · exact nlt z h
                · rw [List.mem_singleton.mp h]
                  exact mlt _ hm'
          · rintro σ H8 ⟨ns, t8, o8, o9, rfl, e8, nl, nlt, D8, ta, tb, K8, kt8, st8⟩
            rw [List.length_map] at nl tb
            have hx18 := kt8 _ _ hx17
            refine ⟨_, rfl, x, _, _, _, rfl, rfl, hx18, ix0, _, rfl, nb, _, rfl, .inl ⟨SqL.of e8, fun u hu => ?_⟩⟩
            first | generalize hGu : upd _ u _ = H9 | (show Ends.nx _ _ (upd _ u _); generalize hGu : upd _ u _ = H9)
            have s9 := same_of_upd hu hGu
            have e9 := at_of_upd hGu
            refine ⟨(by show 3 ≤ sizeLine; omega), fun r5 hr5 => ?_⟩
            first | generalize hGr5 : upd _ r5 _ = HA | (show Ends.nx _ _ (upd _ r5 _); generalize hGr5 : upd _ r5 _ = HA)
            have sA := same_of_upd hr5 hGr5
            have eA := at_of_upd hGr5
            refine k (.ref r5) t8 HA (deck_same (deck_same D8 s9) sA) (by omega) (by omega) (K8.trans (same_keep (same_tr s9 sA))) (.inr ⟨o.w, ns, ⟨r5, u, rfl, SqT.of eA, SqT.of (sA _ _ e9)⟩, ⟨o, wok.mem, rfl, by omega⟩, nlt⟩)
end
end K15


set_option Elab.async false
set_option linter.all false
set_option maxRecDepth 100000
set_option maxHeartbeats 1000000
namespace K15
open PySem PySem.Spec PyProof.Rows L2 Mine TL StX SkE
/-! A drawn recipe. -/
abbrev sSteps : Stmt := top 32
def spSteps (K : PySem.W.Frag) : Sp := fun vs H Q _ => ∃ (dk dl wd pi : Addr) (t : Int) (many : Nat) (us : List V) (items : List PyData) (ks : List (Str × Int)) (os : List Opn), vs = [.ref dk, .ref wd, .ref pi, .int (many : Int)] ∧ DeckAt H dk dl t ∧ WorldAt K H wd ks os ∧ 0 ≤ t ∧ t ≤ 80000 ∧ 1 ≤ many ∧ many ≤ 40 ∧
  H pi = some (.lst us) ∧ pi ≠ dl ∧ DpAll K H us items ∧ (∀ d ∈ items, ItK ks d ∧ sz d ≤ 40) ∧ items.length ≤ 100 ∧ ∀ (p : Addr) (vs : List V) (ss : List Stp) (t' : Int) (H' : Hp), DeckAt H' dk dl t' → t ≤ t' → t' ≤ t + 1 + 20 * (many : Int) → Keep dk dl H H' → SqT K H' p vs → Paired (StAt K H') vs ss → RcOk ks os items.length ss → 1 ≤ ss.length → ss.length ≤ many → (∀ d, some d ∈ worthsS os items ss → ItK ks d ∧ sz d ≤ 40) → Q (.ref p) H'
section
variable {P : Program} {w : World} {K : PySem.W.Frag} {mg : Str → Option Value} {base : Heap}
abbrev nSteps : List Str := ["_law_deck_here", "_law_w", "_law_items", "_law_many", "_law_found", "_law_worths_here", "_law_k", "_law_sort", "_law_step", "_law_label", "_law_count", "_law_worth_here", "_law_turn"]
theorem scSteps : FnScope nSteps ["_law_deck_here", "_law_w", "_law_items", "_law_many"] (defScope sSteps) := ⟨rfl, rfl, rfl, by decide +kernel, rfl, by decide +kernel, by decide +kernel⟩
theorem ok_Steps  {f : Addr} {fd : FuncData} (F : Fun K "_law_steps" "_law_steps" sSteps f fd) (B : Bi mg) (u_draw : Use P w K mg base 1 "_law_draw" ["_law_deck_here", "_law_many"] spDraw) (u_pick : Use P w K mg base 2 "_law_pick" ["_law_deck_here", "_law_some"] (spPickA K)) (u_worth : Use P w K mg base 2 "_law_worth" ["_law_w", "_law_items", "_law_worths_here", "_law_step"] (spWorth K)) (u_inner : Use P w K mg base 61 "_law_inner" ["_law_it"] (spInner K 60)) (u_opener : Use P w K mg base 3 "_law_opener" ["_law_deck_here", "_law_w", "_law_worths_here"] (spOpener K)) : FnOk P w K mg base CX0 (62) f fd ["_law_deck_here", "_law_w", "_law_items", "_law_many"] (spSteps K) := by
  refine F.ok scSteps (fun vs H Q E h => ?_) (fun cdv A outer s H vs Q E hr h => ?_)
  · obtain ⟨dk, dl, wd, pi, t, many, us, items, ks, os, rfl, _⟩ := h
    rfl
  · obtain ⟨dk, dl, wd, pi, t, many, us, items, ks, os, rfl, hD, hW, t0, t1, m1, m40, hpi, pil, hus, its, i100, k⟩ := h
    have line : sizeLine = 16777216 := sizeLine_eq
    refine ⟨_, (pss_cons (ps_asg (pe_tup (pa_cons (pe_lst pa_nil) (pa_cons (pe_lst pa_nil) pa_nil))) (pg_tup rfl (pgs_cons (pg_name (i := 4) scSteps.nd rfl (Or.inr rfl)) (pgs_cons (pg_name (i := 5) scSteps.nd rfl (Or.inl rfl)) pgs_nil))))
      (pss_cons (ps_for PassesOwn.never rfl (pi_range1 rfl B.range (pa_cons (pe_op op_add pe_int (pe_use u_draw (hr.mono (by omega)) rfl (pa_cons (pv 0) (pa_cons (pv 3) pa_nil)))) pa_nil)) (pg_name (i := 6) scSteps.nd rfl (Or.inl rfl))
        (pss_cons (ps_par (i := 7) (j := 8) rfl scSteps.nd rfl rfl (by decide) rfl rfl (pa_cons (pe_use u_draw (hr.mono (by omega)) rfl (pa_cons (pv 0) (pa_cons pe_int pa_nil))) (pa_cons pe_non pa_nil)) (by rfl))
      (pss_cons (ps_cut (ps_if (pt_cut (PW.pt (pw_and (pt_cmpR op_lt (pv 7) pe_int (nomark _)) (pw_and1 (pt_cmpR (op_neD hr.units) (pv 2) (pe_lst pa_nil) (nomark _)))))) (pss_one (ps_set (i := 8) scSteps.nd rfl (.inl rfl) (pe_tup (pa_cons pe_str (pa_cons (pe_use u_draw (hr.mono (by omega)) rfl (pa_cons (pv 0) (pa_cons (pe_callB call_len_seq (by rfl) B.len PySem.boot_len (pa_cons (pv 2) pa_nil)) pa_nil))) pa_nil))))) (pss_one (ps_if (pt_cut (PW.pt (pw_and (pt_cmpR op_eq (pv 7) pe_int (nomark _)) (pw_and1 (pt_cmpR (op_neD hr.units) (pv 4) (pe_lst pa_nil) (nomark _)))))) (pss_cons (ps_asg (pe_use u_pick (hr.mono (by omega)) rfl (pa_cons (pv 0) (pa_cons (pe_dget (hu_of hr) (pv 1) pe_str (fun _ _ => rfl)) pa_nil))) (pg_tup rfl (pgs_cons (pg_name (i := 9) scSteps.nd rfl (Or.inl rfl)) (pgs_cons (pg_name (i := 10) scSteps.nd rfl (Or.inl rfl)) pgs_nil))))
      (pss_cons (ps_set (i := 8) scSteps.nd rfl (.inl rfl) (pe_tup (pa_cons pe_str (pa_cons (pv 9) (pa_cons (pe_callTy call_tuple_of (by rfl) B.tuple (by decide +kernel) (pa_cons (pe_lc (own := [("_law_turn", 12)]) (g := (gName 12)) (tt := tYes) rfl scSteps.nd (pi_range1 rfl B.range (pa_cons (pv 10) pa_nil)) (blkOk_by (own := [("_law_turn", 12)]) (N := nSteps) (sc := defScope sSteps) (by decide +kernel)) (fun _ _ _ _ _ => (pg_name (i := 12) scSteps.nd rfl (Or.inl rfl))) (fun _ _ _ _ _ => pts_nil) (fun _ _ _ _ _ => (pe_use u_draw (hr.mono (by omega)) rfl (pa_cons (pv 0) (pa_cons (pe_callB (call_len_seqK (K := K) rfl) (by rfl) B.len PySem.boot_len (pa_cons (pv 4) pa_nil)) pa_nil))))) pa_nil)) pa_nil)))))
      (pss_cons (ps_set (i := 11) scSteps.nd rfl (.inl rfl) (pe_use u_worth (hr.mono (by omega)) rfl (pa_cons (pv 1) (pa_cons (pv 2) (pa_cons (pv 5) (pa_cons (pv 8) pa_nil))))))
      (pss_one (ps_set (i := 8) scSteps.nd rfl (.inl rfl) (pe_ifExp (PW.pt (pw_and (pt_cmpR op_notN (pv 11) pe_non (nomark _)) (pw_and1 (pt_cmpR op_gt (pe_callB call_len_seq (by rfl) B.len PySem.boot_len (pa_cons (pe_use u_inner (hr.mono (by omega)) rfl (pa_cons (pv 11) pa_nil)) pa_nil)) pe_int (nomark _))))) pe_non (pv 8))))))) (pss_one (ps_if (pt_cmpR op_gt (pv 7) pe_int (nomark _)) (pss_one (ps_set (i := 8) scSteps.nd rfl (.inl rfl) (pe_use u_opener (hr.mono (by omega)) rfl (pa_cons (pv 0) (pa_cons (pv 1) (pa_cons (pv 5) pa_nil)))))) pss_nil))))))
      (pss_cons (ps_expr (pe_bm PySem.F.plainAttrs_list PySem.F.slot_list_append PySem.F.type_list_append mt_append (pv 4) (pa_cons (pe_cut (pe_ifExp (pt_cmpR op_notN (pv 8) pe_non (nomark _)) (pv 8) (pe_tup (pa_cons pe_str (pa_cons (pe_use u_pick (hr.mono (by omega)) rfl (pa_cons (pv 0) (pa_cons (pe_lst (pa_cons pe_str (pa_cons pe_str (pa_cons pe_str pa_nil)))) pa_nil))) pa_nil))))) pa_nil)))
      (pss_one (ps_expr (pe_bm PySem.F.plainAttrs_list PySem.F.slot_list_append PySem.F.type_list_append mt_append (pv 5) (pa_cons (pe_use u_worth (hr.mono (by omega)) rfl (pa_cons (pv 1) (pa_cons (pv 2) (pa_cons (pv 5) (pa_cons (pe_ix ix_list (pv 4) (pe_un un_neg pe_int) (fun _ _ => rfl)) pa_nil))))) pa_nil))))))))
      (pss_one (ps_ret (pe_callTy call_tuple_of (by rfl) B.tuple (by decide +kernel) (pa_cons (pv 4) pa_nil)))))), ?_⟩
    have pik : pi ≠ dk := by
      obtain ⟨⟨m, e, _⟩, _⟩ := hD
      exact ne_of hpi e (by intro z; cases z)
    have itI : ∀ d ∈ items, ItK ks d := fun d hd => (its d hd).1
    have ul := dps_len hus
    refine ⟨Nat.zero_le _, fun fl hfl => ?_⟩
    first | generalize hGfl : upd _ fl _ = H0 | (show Ends.nx _ _ (upd _ fl _); generalize hGfl : upd _ fl _ = H0)
    have s0 := same_of_upd hfl hGfl
    have e0 := at_of_upd hGfl
    refine ⟨Nat.zero_le _, fun wl hwl => ?_⟩
    first | generalize hGwl : upd _ wl _ = H0' | (show Ends.nx _ _ (upd _ wl _); generalize hGwl : upd _ wl _ = H0')
    have s0' := same_of_upd hwl hGwl
    have e0' := at_of_upd hGwl
    refine ⟨(by show 2 ≤ sizeLine; omega), fun tt htt => ?_⟩
    first | generalize hGtt : upd _ tt _ = H1 | (show Ends.nx _ _ (upd _ tt _); generalize hGtt : upd _ tt _ = H1)
    have s1 := same_of_upd htt hGtt
    have e1 := at_of_upd hGtt
    refine ⟨tt, _, rfl, SqT.of e1, rfl, _, _, rfl, _, _, rfl, rfl, ?_⟩
    have s01 := same_tr s0 (same_tr s0' s1)
    have D1 := deck_same hD s01
    have foff := hD.off hfl
    have woff := hD.off (same_free s0 hwl)
    have wnl : H wl = none := same_free s0 hwl
    have fw : fl ≠ wl := ne_of_none e0 hwl
    have fpi : fl ≠ pi := (ne_of_none hpi hfl).symm
    have wpi : wl ≠ pi := (ne_of_none hpi wnl).symm
    refine ⟨_, rfl, _, rfl, dk, dl, many, t, rfl, D1, by omega, by omega, by omega, by omega, fun r H2 r0 r1 D2 K2 => ⟨_, _, rfl, rfl, ?_⟩⟩
    refine ⟨1 + r, rfl, by omega, by omega, ?_⟩
    refine for_range (lo := 0) (n := (1 + r).toNat) (fun i σ H' => ∃ (vs ws : List V) (ss : List Stp) (t' : Int) (o6 o7 o8 o9 o10 o11 : Option V), σ = [some (.ref dk), some (.ref wd), some (.ref pi), some (.int (many : Int)), some (.ref fl), some (.ref wl), o6, o7, o8, o9, o10, o11, none] ∧ H' fl = some (.lst vs) ∧ H' wl = some (.lst ws) ∧ Paired (StAt K H') vs ss ∧ ss.length = i ∧ DpAll K H' ws ((worthsS os items ss).map optD) ∧ RcOk ks os items.length ss ∧ (∀ d, some d ∈ worthsS os items ss → ItK ks d ∧ sz d ≤ 40) ∧ DeckAt H' dk dl t' ∧ t + 1 ≤ t' ∧ t' ≤ t + 1 + 20 * (i : Int) ∧ Keep dk dl H H')
      ⟨[], [], [], t + 1, none, none, none, none, none, none, rfl, K2 _ _ foff.1 foff.2 (s1 _ _ (s0' _ _ e0)), K2 _ _ woff.1 woff.2 (s1 _ _ e0'), .nil, rfl, .nil, (fun i s z => by cases z), (fun _ z => (List.not_mem_nil z).elim), D2, by omega, by omega, (same_keep s01).trans K2⟩ ?_ ?_
    · rintro i σ H3 hi ⟨vs, ws, ss, t3, o6, o7, o8, o9, o10, o11, rfl, e3, f3, hp3, sl, hw3, rc, wok, D3, ta, tb, K3⟩
      have i40 : i < 40 := by omega
      have W3 := hW.keep hD K3
      have wl3 := worths_len (os := os) (items := items) ss
      have hpi3 := K3 _ _ pik pil hpi
      have hus3 := its_kt (kt_keep hD K3) itI hus
      refine ⟨_, rfl, dk, dl, 6, t3, rfl, D3, by decide, by decide, by omega, by omega, fun so H4 so0 so1 D4 K4 => ?_⟩
      have e4 := K4 _ _ foff.1 foff.2 e3
      have f4 := K4 _ _ woff.1 woff.2 f3
      have kt34 := kt_keep (K := K) D3 K4
      have hp4 := paired_mono (fun a b h => StAt.kt kt34 h) hp3
      have wth : ∀ d, some d ∈ worthsS os items ss → thing d = true := fun d hd => (wok d hd).1.th
      have hw4 := opts_kt kt34 wth hw3
      have W4 := W3.keep D3 K4
      have K04 := K3.trans K4
      have hpi4 := K04 _ _ pik pil hpi
      have hus4 := its_kt (kt_keep hD K04) itI hus
      have vl := hp3.length
      have wIt : ∀ (H5 : Hp) (v : V) (s : Stp) (Q' : VK), KTu K H4 H5 → WorldAt K H5 wd ks os → H5 pi = some (.lst us) → H5 wl = some (.lst ws) → StAt K H5 v s → StOk ks os items.length ss.length s → (∀ v' H', Same H5 H' → Dp K H' v' (optD (worthS os items (worthsS os items ss) s)) → Q' v' H') → spWorth K [.ref wd, .ref pi, .ref wl, v] H5 Q' E0 := fun H5 v s Q' kt W5 a b c d q =>
        ⟨wd, pi, wl, v, us, ws, items, worthsS os items ss, ks, os, s, rfl, W5, SqL.of a, its_kt kt itI hus4, itI, SqL.of b, opts_kt kt wth hw4, fun d hd => ⟨(wok d hd).1, by have := (wok d hd).2; omega⟩, c, by rw [wl3]; exact d, q⟩
      have wit : ∀ s, StOk ks os items.length ss.length s → ∀ d, worthS os items (worthsS os items ss) s = some d → ItK ks d := fun s hs d e => worth_it W4.kok W4.ook itI (fun d hd => (wok d hd).1) (by rw [wl3]; exact hs) e
      refine ⟨_, _, rfl, fun σ' H' => ∃ (v : V) (t' : Int) (o9 o10 o11 : Option V), σ' = [some (.ref dk), some (.ref wd), some (.ref pi), some (.int (many : Int)), some (.ref fl), some (.ref wl), some (.int (0 + (i : Int))), some (.int so), some v, o9, o10, o11, none] ∧ (v = .non ∨ ∃ s, StAt K H' v s ∧ StOk ks os items.length ss.length s ∧ ∀ d, worthS os items (worthsS os items ss) s = some d → sz d ≤ 40) ∧ DeckAt H' dk dl t' ∧ t3 + 1 ≤ t' ∧ t' ≤ t3 + 15 ∧ Keep dk dl H4 H', ?_, ?_⟩
      · refine ⟨fun b H' => Same H4 H' ∧ (b = true → items ≠ []), ?_, ?_⟩
        · refine ⟨_, rfl, _, _, rfl, rfl, _, rfl, ite2 (fun hb => ?_) (fun hb => ⟨same_rfl, fun z => by cases z⟩)⟩
          refine ⟨_, rfl, Nat.zero_le _, fun e he => ?_⟩
          first | generalize hGe : upd _ e _ = H5 | (show Ends.nx _ _ (upd _ e _); generalize hGe : upd _ e _ = H5)
          have s5 := same_of_upd he hGe
          have e5 := at_of_upd hGe
          refine ⟨_, _, .lst (SqL.of (s5 _ _ hpi4)) (its_kt (kt_same s5) itI hus4), .lst (SqL.of e5) .nil, shapedI (ks := ks) (fun d hd => ⟨itI d hd, by have := (its d hd).2; omega⟩), shapedNil, _, rfl, s5, fun z y => ?_⟩
          rw [y] at z
          cases z
        · rintro b H5 ⟨s45, hb⟩
          have D5 := deck_same D4 s45
          have hpi5 := s45 _ _ hpi4
          have e5 := s45 _ _ e4
          have f5 := s45 _ _ f4
          have W5 := W4.same s45
          cases b with
          | true =>
            have ine := hb rfl
            have i1 : 1 ≤ items.length := by
              cases items with
              | nil => exact absurd rfl ine
              | cons _ _ => exact Nat.succ_le_succ (Nat.zero_le _)
            refine ⟨_, rfl, _, rfl, pi, us, rfl, .inl (SqL.of hpi5), dk, dl, (us.length : Int), t3 + 1, rfl, D5, by omega, by omega, by omega, by omega, fun q H6 q0 q1 D6 K6 => ⟨(by show 2 ≤ sizeLine; omega), fun p hp => ?_⟩⟩
            first | generalize hGp : upd _ p _ = H7 | (show Ends.nx _ _ (upd _ p _); generalize hGp : upd _ p _ = H7)
            have s7 := same_of_upd hp hGp
            have e7 := at_of_upd hGp
            refine ⟨.ref p, t3 + 1 + 1, _, _, _, rfl, .inr ⟨.shown q.toNat, ⟨p, rfl, by rw [natV_of q0]; exact SqT.of e7⟩, ?_, fun d e => (its d (List.mem_of_getElem? e)).2⟩, deck_same D6 s7, by omega, by omega, ((same_keep s45).trans K6).trans (same_keep s7)⟩
            show q.toNat < items.length
            omega
          | false =>
            refine ⟨fun b H' => Same H5 H' ∧ (b = true → ss ≠ []), ?_, ?_⟩
            · refine ⟨_, rfl, rfl, _, rfl, ite2 (fun hb => ?_) (fun hb => ⟨same_rfl, fun z => by cases z⟩)⟩
              refine ⟨_, rfl, Nat.zero_le _, fun e he => ?_⟩
              first | generalize hGe : upd _ e _ = H6 | (show Ends.nx _ _ (upd _ e _); generalize hGe : upd _ e _ = H6)
              have s6 := same_of_upd he hGe
              have e6 := at_of_upd hGe
              refine ⟨_, _, .lst (SqL.of (s6 _ _ e5)) (sts_dp (paired_mono (fun a b h => StAt.kt (kt_same (same_tr s45 s6)) h) hp4)), .lst (SqL.of e6) .nil, sts_shaped W4.kok W4.ook rc, shapedNil, _, rfl, s6, fun z y => ?_⟩
              rw [y] at z
              cases z
            · rintro b H6 ⟨s56, hb⟩
              have s46 := same_tr s45 s56
              have D6 := deck_same D5 s56
              have hpi6 := s56 _ _ hpi5
              have e6 := s56 _ _ e5
              have f6 := s56 _ _ f5
              have W6 := W5.same s56
              cases b with
              | true =>
                have sne := hb rfl
                have s1l : 1 ≤ ss.length := by
                  cases ss with
                  | nil => exact absurd rfl sne
                  | cons _ _ => exact Nat.succ_le_succ (Nat.zero_le _)
                obtain ⟨ws', wy, ps, as, ew, hk1, hk2⟩ := W6.ex
                have kl := hk1.len
                have kn := W6.kok.len
                have kne : ps ≠ [] := fun z => W6.kok.ne (List.length_eq_zero_iff.mp (by rw [← kl, z]; rfl))
                refine ⟨_, rfl, _, rfl, wd, _, rfl, gS ew, .inr ⟨dk, dl, ws', t3 + 1, _, rfl, D6, TupN.sq hk1.at_, by simpa using kne, by rw [List.length_map]; omega, by omega, by omega, fun y H7 hy D7 K7 => ?_⟩⟩
                obtain ⟨a, ha, rfl⟩ := List.mem_map.mp hy
                obtain ⟨p, mp, ap⟩ := paired_mem1 hk1.each ha
                obtain ⟨p1, p3⟩ := W6.kok.num p mp
                have K47 : Keep dk dl H4 H7 := (same_keep s46).trans K7
                refine ⟨a, _, rfl, K7.kt D6 _ _ ap, rfl, _, _, rfl, _, _, rfl, rfl, ?_⟩
                refine ⟨_, rfl, _, rfl, p.2, rfl, by omega, by omega, fun D hDn => ?_⟩
                have doff := D7.off hDn
                refine lc_range (lo := 0) (n := p.2.toNat) (fun j H' => ∃ (ns : List Nat) (t' : Int), H' D = some (.lst (ns.map natV)) ∧ ns.length = j ∧ (∀ m ∈ ns, m < ss.length) ∧ DeckAt H' dk dl t' ∧ t3 + 2 ≤ t' ∧ t' ≤ t3 + 2 + (j : Int) ∧ Keep dk dl H7 H') ⟨[], t3 + 1 + 1, upd_same, rfl, (fun _ z => (List.not_mem_nil z).elim), D7.new hDn, by omega, by omega, Keep.refl.new hDn⟩ ?_ ?_
                · rintro j H8 hj ⟨ns, t8, e8, nl, nlt, D8, te, tf, K8⟩
                  have g8 := K8 _ _ foff.1 foff.2 (K7 _ _ foff.1 foff.2 e6)
                  refine ⟨rfl, ?_⟩
                  unfold tYes
                  dsimp only
                  rw [if_pos rfl]
                  refine ⟨_, rfl, _, rfl, fl, vs, rfl, .inl (SqL.of g8), dk, dl, (vs.length : Int), t8, rfl, D8, by omega, by omega, by omega, by omega, fun q H9 q0 q1 D9 K9 => ?_⟩
                  have e9 := K9 _ _ doff.1 doff.2 e8
                  refine ⟨_, e9, by rw [List.length_map]; omega, ns ++ [q.toNat], t8 + 1, ?_, by rw [List.length_append, nl]; rfl, fun m hm => ?_, D9.set doff.1 doff.2, by omega, by omega, keep_off (K8.trans K9) hDn⟩
                  · rw [upd_same, List.map_append]
                    rw [List.map_cons, natV_of q0]
                    rfl
                  · rcases List.mem_append.mp hm with h | h
                    · exact nlt m h
                    · rw [List.mem_singleton.mp h]
                      omega
                · rintro H8 ⟨ns, t8, e8, nl, nlt, D8, te, tf, K8⟩
                  refine ⟨D, _, rfl, .inl ⟨SqL.of e8, fun u hu => ?_⟩⟩
                  first | generalize hGu : upd _ u _ = H9 | (show Ends.nx _ _ (upd _ u _); generalize hGu : upd _ u _ = H9)
                  have s9 := same_of_upd hu hGu
                  have e9 := at_of_upd hGu
                  refine ⟨(by show 3 ≤ sizeLine; omega), fun q hq => ?_⟩
                  first | generalize hGq : upd _ q _ = HA | (show Ends.nx _ _ (upd _ q _); generalize hGq : upd _ q _ = HA)
                  have sA := same_of_upd hq hGq
                  have eA := at_of_upd hGq
                  have s8A := same_tr s9 sA
                  have K4A : Keep dk dl H4 HA := (K47.trans K8).trans (same_keep s8A)
                  have DA := deck_same D8 s8A
                  have WA := W4.keep D4 K4A
                  have sAt : StAt K HA (.ref q) (.make p.1 ns) := ⟨q, u, rfl, SqT.of eA, SqT.of (sA _ _ e9)⟩
                  have sok : StOk ks os items.length ss.length (.make p.1 ns) := ⟨by rw [show ((ns.length : Nat) : Int) = p.2 by omega]; exact mp, nlt⟩
                  refine ⟨_, rfl, _, rfl, _, rfl, _, rfl, wIt HA (.ref q) _ _ (kt_keep D4 K4A) WA (K4A _ _ pik pil hpi4) (K4A _ _ woff.1 woff.2 f4) sAt sok fun v' HB sB dB => ?_⟩
                  have DB := deck_same DA sB
                  have K4B : Keep dk dl H4 HB := K4A.trans (same_keep sB)
                  refine ⟨_, rfl, rfl, _, rfl, ?_⟩
                  cases hw : worthS os items (worthsS os items ss) (.make p.1 ns) with
                  | none =>
                    rw [hw] at dB
                    cases dB
                    exact ⟨_, rfl, .ref q, t8, _, _, _, rfl, .inr ⟨_, StAt.kt (kt_same sB) sAt, sok, fun d e => by rw [hw] at e; cases e⟩, DB, by omega, by omega, K4B⟩
                  | some d =>
                    rw [hw] at dB
                    have itd := wit _ sok d hw
                    have vne : decide (v' = V.non) = false := by
                      rcases itd.cases dB with ⟨c, _, rfl, _⟩ | ⟨a, _, _, _, _, rfl, _⟩ <;> rfl
                    rw [vne]
                    obtain ⟨dd, ds'⟩ : d.depth ≤ 60 ∧ sz d ≤ 4000 := by
                      obtain ⟨l, hl, rfl⟩ := Option.map_eq_some_iff.mp hw
                      have all : ∀ d ∈ l, ItK ks d ∧ sz d ≤ 40 := fun d hd => by
                        have md : some d ∈ ns.map fun n => ((worthsS os items ss)[n]?).join := by rw [allSome_some.mp hl]; exact List.mem_map_of_mem hd
                        obtain ⟨n', _, e'⟩ := List.mem_map.mp md
                        exact wok d (List.mem_of_getElem? (Option.join_eq_some_iff.mp e'))
                      have ll : l.length ≤ 3 := by
                        have e := congrArg List.length (allSome_some.mp hl)
                        rw [List.length_map, List.length_map] at e
                        omega
                      refine ⟨?_, ?_⟩
                      · have : PyData.depthAll (.str p.1 :: l) ≤ 40 := deps_le.mpr fun d hd => by
                          rcases List.mem_cons.mp hd with rfl | hd
                          · simp [PyData.depth]
                          · have := (all d hd).1.dep
                            have := (all d hd).2
                            omega
                        simp only [PyData.depth]
                        omega
                      · rw [sz_tup]
                        have := sum_le (k := 40) (l := l.map sz) fun x hx => by
                          obtain ⟨d, hd, rfl⟩ := List.mem_map.mp hx
                          exact (all d hd).2
                        rw [List.length_map] at this
                        have : 40 * l.length ≤ 40 * 3 := Nat.mul_le_mul_left _ ll
                        omega
                    refine ⟨_, rfl, v', d, rfl, dB, itd.th, dd, ds', fun r5 us5 HC sC nC eC dC => ⟨r5, us5, rfl, .inl (SqL.of eC), _, _, rfl, rfl, _, rfl, ?_⟩⟩
                    have l5 := dps_len dC
                    have l5' : us5.length = sz d := l5
                    have DC := deck_same DB sC
                    have K4C := K4B.trans (same_keep sC)
                    refine ite2 (fun hb => ⟨.non, t8, _, _, _, rfl, .inl rfl, DC, by omega, by omega, K4C⟩) (fun hb => ⟨_, rfl, .ref q, t8, _, _, _, rfl, .inr ⟨_, StAt.kt (kt_same (same_tr sB sC)) sAt, sok, fun d' e => ?_⟩, DC, by omega, by omega, K4C⟩)
                    rw [hw] at e
                    cases e
                    have : ¬ ((us5.length : Int) > 40) := fun z => hb (decide_eq_true z)
                    omega
              | false =>
                refine ⟨_, rfl, _, _, rfl, rfl, _, rfl, ite2 (fun hb => ?_) (fun hb => ?_)⟩
                · refine ⟨_, rfl, _, rfl, _, rfl, dk, dl, wd, wl, t3 + 1, ws, worthsS os items ss, ks, os, rfl, D6, W6, by omega, by omega, f6, woff.2, opts_kt (kt_same s46) wth hw4, fun d hd => ⟨(wok d hd).1, by have := (wok d hd).2; omega⟩, by rw [wl3]; omega, fun v t' H7 D7 xa xb K7 hv => ?_⟩
                  refine ⟨v, t', _, _, _, rfl, ?_, D7, by omega, by omega, (same_keep s46).trans K7⟩
                  rcases hv with rfl | ⟨c, ns, hs, hok⟩
                  · exact .inl rfl
                  · exact .inr ⟨.opn c ns, hs, ⟨hok.1, fun m hm => by have := hok.2 m hm; omega⟩, fun d e => open_sz wok e⟩
                · exact ⟨.non, t3 + 1, _, _, _, rfl, .inl rfl, D6, by omega, by omega, same_keep s46⟩
      · rintro σ' H5 ⟨v, t5, o9, o10, o11, rfl, hv, D5, tc, td, K5⟩
        have e5 := K5 _ _ foff.1 foff.2 e4
        have f5 := K5 _ _ woff.1 woff.2 f4
        have kt45 := kt_keep (K := K) D4 K5
        have W5 := W4.keep D4 K5
        have hpi5 := K5 _ _ pik pil hpi4
        refine ⟨_, rfl, .inl ⟨rfl, _, SqL.of e5⟩, fun v' H' => ∃ (s : Stp) (t' : Int), StAt K H' v' s ∧ StOk ks os items.length ss.length s ∧ (∀ d, worthS os items (worthsS os items ss) s = some d → sz d ≤ 40) ∧ DeckAt H' dk dl t' ∧ t5 ≤ t' ∧ t' ≤ t5 + 1 ∧ Keep dk dl H5 H', ?_, ?_⟩
        · refine ⟨_, rfl, rfl, _, rfl, ?_⟩
          rcases hv with rfl | ⟨s, hs, hok, h40⟩
          · refine ⟨_, rfl, (by show 3 ≤ sizeLine; omega), fun p hp => ?_⟩
            first | generalize hGp : upd _ p _ = H6 | (show Ends.nx _ _ (upd _ p _); generalize hGp : upd _ p _ = H6)
            have s6 := same_of_upd hp hGp
            have e6 := at_of_upd hGp
            refine .inl ⟨dk, dl, p, t5, _, rfl, deck_same D5 s6, (D5.off hp).2, e6, by simp, by decide, by omega, by omega, fun y H7 hy D7 K7 => ?_⟩
            have hy' : y ∈ ([lsS "a", lsS "b", lsS "word"]).map V.str := hy
            obtain ⟨c, hc, rfl⟩ := List.mem_map.mp hy'
            have cok : ∀ c ∈ [lsS "a", lsS "b", lsS "word"], c ∈ IV ∧ c.cps.toList.all (fun c => decide (97 ≤ c)) = true := by decide +kernel
            refine ⟨(by show 2 ≤ sizeLine; omega), fun q hq => ?_⟩
            first | generalize hGq : upd _ q _ = H8 | (show Ends.nx _ _ (upd _ q _); generalize hGq : upd _ q _ = H8)
            have s8 := same_of_upd hq hGq
            have e8 := at_of_upd hGq
            refine ⟨.word c, t5 + 1, ⟨q, rfl, SqT.of e8⟩, cok c hc, fun d e => ?_, deck_same D7 s8, by omega, by omega, ((same_keep s6).trans K7).trans (same_keep s8)⟩
            cases e
            rw [sz_str]
            decide
          · have vne : decide (v = V.non) = false := by
              cases s with
              | shown i => obtain ⟨a, rfl, _⟩ := hs; rfl
              | word x => obtain ⟨a, rfl, _⟩ := hs; rfl
              | make c ns => obtain ⟨a, b, rfl, _⟩ := hs; rfl
              | opn c ns => obtain ⟨a, b, rfl, _⟩ := hs; rfl
            rw [vne]
            exact ⟨_, rfl, s, t5, hs, hok, h40, D5, by omega, by omega, Keep.refl⟩
        · rintro v' H6 ⟨s, t6, hs, hok, h40, D6, te, tf, K6⟩
          have e6 := K6 _ _ foff.1 foff.2 e5
          have f6 := K6 _ _ woff.1 woff.2 f5
          have kt46 : KTu K H4 H6 := KTu.tr kt45 (kt_keep D5 K6)
          refine ⟨fl, vs, v', rfl, rfl, e6, by omega, ?_⟩
          have ktF : KTu K H6 (upd H6 fl (.lst (vs ++ [v']))) := kt_lst e6
          have D7 := D6.set (o := .lst (vs ++ [v'])) foff.1 foff.2
          have K7 : Keep dk dl H (upd H6 fl (.lst (vs ++ [v']))) := keep_off ((K04.trans K5).trans K6) hfl
          have g7 : upd H6 fl (.lst (vs ++ [v'])) fl = some (.lst (vs ++ [v'])) := upd_same
          have f7 := (upd_ne (o := .lst (vs ++ [v'])) fw.symm).trans f6
          generalize upd H6 fl (.lst (vs ++ [v'])) = H7 at ktF D7 K7 g7 f7
          have W7 := hW.keep hD K7
          have hpi7 := K7 _ _ pik pil hpi
          have kt47 := KTu.tr kt46 ktF
          have hs7 := StAt.kt ktF hs
          refine ⟨_, rfl, .inl ⟨rfl, _, SqL.of f7⟩, _, rfl, _, rfl, _, rfl, _, rfl, _, rfl, fl, _, _, _, rfl, rfl, SqL.of g7, atI_last _ _, wIt H7 v' s _ kt47 W7 hpi7 f7 hs7 hok fun v8 H8 s8 d8 => ?_⟩
          have f8 := s8 _ _ f7
          have g8 := s8 _ _ g7
          have kt48 := KTu.tr kt47 (kt_same s8)
          have ktW : KTu K H8 (upd H8 wl (.lst (ws ++ [v8]))) := kt_lst f8
          have ktX : KTu K H4 (upd H8 wl (.lst (ws ++ [v8]))) := KTu.tr kt48 ktW
          have wsl := dps_len hw3
          rw [List.length_map, wl3] at wsl
          refine ⟨wl, ws, v8, rfl, rfl, f8, by omega, vs ++ [v'], ws ++ [v8], ss ++ [s], t6, _, _, _, _, _, _, rfl, (upd_ne fw).trans g8, upd_same, paired_snoc (R := StAt K _) (StAt.kt (KTu.tr (kt_same s8) ktW) hs7) (paired_mono (fun a b h => StAt.kt ktX h) hp4), by rw [List.length_append, sl]; rfl, ?_, rc.snoc hok, fun d hd => ?_, (deck_same D7 s8).set woff.1 woff.2, by omega, by omega, keep_off (K7.trans (same_keep s8)) wnl⟩
          · rw [worths_snoc, List.map_append]
            exact dps_app (opts_kt ktX wth hw4) (.cons (opt_kt ktW (fun d e => (wit s hok d e).th) d8) .nil)
          · rw [worths_snoc] at hd
            rcases List.mem_append.mp hd with h | h
            · exact wok d h
            · have h := List.mem_singleton.mp h
              exact ⟨wit s hok d h.symm, h40 d h.symm⟩
    · rintro σ H3 ⟨vs, ws, ss, t3, o6, o7, o8, o9, o10, o11, rfl, e3, f3, hp3, sl, hw3, rc, wok, D3, ta, tb, K3⟩
      refine ⟨_, rfl, fl, vs, rfl, .inl ⟨SqL.of e3, fun q hq => ?_⟩⟩
      have s4 : Same H3 (upd H3 q (.tup vs)) := same_new same_rfl hq
      exact k q vs ss t3 _ (deck_same D3 s4) (by omega) (by omega) (K3.trans (same_keep s4)) (SqT.of upd_same) (paired_mono (fun a b h => StAt.kt (kt_same s4) h) hp3) rc (by omega) (by omega) wok
end
end K15


set_option Elab.async false
set_option linter.all false
set_option maxRecDepth 100000
set_option maxHeartbeats 1000000
/-! Words, names and numbers in texts; the text of a recipe. -/
namespace Mine
open PySem PySem.Spec PyProof.Rows L2 TL
theorem yes_if {σ : L2.St} {H : Hp} {A B : Hp → Prop} (h : A H) : tYes σ H (fun b H3 => if b = true then A H3 else B H3) := by
  unfold tYes
  dsimp only
  rw [if_pos rfl]
  exact h
def CAP : Str := PySem.Str.ofString "ABCDEFGHIJKLMNOPQRSTUVWXYZ"
def DIG : Str := PySem.Str.ofString "0123456789"
def inS (S : Str) (c : Nat) : Bool := decide (c ∈ S.cps.toList)
def shortS (x : Str) : Bool := decide (1 ≤ x.length) && decide (x.length ≤ 8)
def isW (x : Str) : Bool := shortS x && x.cps.toList.all (inS ABC)
def isN (x : Str) : Bool := shortS x && (match x.cps.toList with
  | c :: r => inS CAP c && r.all fun d => inS ABC d || inS DIG d
  | [] => false)
/-- asked of a text, or of what is none -/
def spIs (K : PySem.W.Frag) (f : Str → Bool) : Sp := fun vs H Q _ => ∃ v, vs = [v] ∧ ((∃ x, v = .str x ∧ x.length ≤ sizeLine ∧ ∀ H', Same H H' → Q (.bl (f x)) H') ∨ ((∃ t, TyX K H v t ∧ PySem.W.kitOne K t (.type "str") = some false) ∧ ∀ H', Same H H' → Q (.bl false) H'))
theorem bools_snoc {f : Nat → Bool} {l : List Nat} {i c : Nat} (h : l[i]? = some c) : ((l.take (i + 1)).map f).map V.bl = ((l.take i).map f).map V.bl ++ [V.bl (f c)] := by
  rw [List.take_add_one, h]
  simp
theorem bools_all (f : Nat → Bool) (l : List Nat) : (l.map f).all id = l.all f := by
  rw [List.all_map]
  rfl
def valN (l : List Nat) : Int := l.foldl (fun (a : Int) (c : Nat) => 10 * a + ((c : Int) - 48)) 0
/-- the number that a text writes -/
def numIn (x : Str) : Option Int := if x.cps.toList = [] ∨ ¬ x.cps.toList.all (inS DIG) = true then none else if x.cps.toList.head? = some 48 ∧ 1 < x.cps.toList.length then none else some (valN x.cps.toList)
def num (i : Int) : Str := PySem.Str.ofString (toString i)
abbrev nums (n : Nat) : Str := num ((n : Nat) : Int)
theorem numIn_nums : ∀ n ≤ 300, numIn (nums n) = some (n : Int) := by decide +kernel
theorem nums_len : ∀ n ≤ 300, (nums n).length ≤ 3 := by decide +kernel
theorem nums_log : ∀ n : Nat, n ≤ 300 → ((n : Nat) : Int).natAbs.log2 < 1920 := by decide +kernel
theorem nums_free : ∀ n ≤ 300, 32 ∉ tl (nums n) ∧ 59 ∉ tl (nums n) := by decide +kernel
def spS : Str := PySem.Str.ofString " "
def scS : Str := PySem.Str.ofString ";"
/-- the words of a step -/
def stW : Stp → List Str
  | .shown i => [lsS "shown", nums i]
  | .word x => [lsS "word", x]
  | .make c ns => lsS "make" :: c :: ns.map nums
  | .opn c ns => lsS "open" :: c :: ns.map nums
def stT (s : Stp) : Str := Txt.join spS (stW s)
def rcT (ss : List Stp) : Str := Txt.join scS (ss.map stT)
/-- a step at a place, by itself -/
def StW (at_ : Nat) : Stp → Prop
  | .shown i => i ≤ 300
  | .word x => isW x = true ∧ PyData.strOk x = true
  | .make c ns => isW c = true ∧ PyData.strOk c = true ∧ 1 ≤ ns.length ∧ ns.length ≤ 3 ∧ ∀ m ∈ ns, m < at_
  | .opn c ns => isW c = true ∧ PyData.strOk c = true ∧ 1 ≤ ns.length ∧ ns.length ≤ 3 ∧ ∀ m ∈ ns, m < at_
def RcW (ss : List Stp) : Prop := (∀ i s, ss[i]? = some s → StW i s) ∧ 1 ≤ ss.length ∧ ss.length ≤ 200
theorem kv_isW : ∀ x ∈ KWd, isW x = true := by decide +kernel
theorem iv_isW : ∀ x ∈ IV, x.cps.toList.all (fun c => decide (97 ≤ c)) = true → isW x = true := by decide +kernel
theorem rc_w {ks : List (Str × Int)} {os : List Opn} {n : Nat} {ss : List Stp} (ko : KsOk ks) (oo : OsOk ks os) (h : RcOk ks os n ss) (n300 : n ≤ 300) (l1 : 1 ≤ ss.length) (l2 : ss.length ≤ 200) : RcW ss := by
  refine ⟨fun i s hs => ?_, l1, l2⟩
  have := h i s hs
  cases s with
  | shown i => exact Nat.le_of_lt (Nat.lt_of_lt_of_le this n300)
  | word x => exact ⟨iv_isW x this.1 this.2, iv_strOk x this.1⟩
  | make c ns =>
    have h2 := ko.num _ this.1
    dsimp only at h2
    exact ⟨kv_isW c (ko.ww _ this.1), kv_strOk c (ko.ww _ this.1), by omega, by omega, this.2⟩
  | opn c ns =>
    obtain ⟨⟨o, ho, rfl, e⟩, h2⟩ := this
    obtain ⟨_, _, _, _, l, _⟩ := (oo.each o ho).ex
    exact ⟨kv_isW _ (oo.each o ho).ww, kv_strOk _ (oo.each o ho).ww, by omega, by omega, h2⟩
/-- the sizes of the steps, written out -/
def widthsS (ss : List Stp) : List Int := ss.foldl (fun ws s => ws ++ [1 + (s.nums.map fun n => ws.getD n 0).sum]) []
def widthS (ss : List Stp) : Int := (widthsS ss).getLast?.getD 0
theorem widths_snoc {ss : List Stp} {s : Stp} : widthsS (ss ++ [s]) = widthsS ss ++ [1 + (s.nums.map fun n => (widthsS ss).getD n 0).sum] := by
  unfold widthsS
  rw [List.foldl_append]
  rfl
theorem widths_len : ∀ ss : List Stp, (widthsS ss).length = ss.length := fun ss => by
  have go : ∀ (ss : List Stp) (acc : List Int), (ss.foldl (fun ws s => ws ++ [1 + (s.nums.map fun n => ws.getD n 0).sum]) acc).length = acc.length + ss.length := fun ss => by
    induction ss with
    | nil => intro acc; rfl
    | cons s ss ih =>
      intro acc
      rw [List.foldl_cons, ih, List.length_append, List.length_cons]
      simp only [List.length_cons, List.length_nil]
      omega
  have := go ss []
  simpa [widthsS] using this
theorem snoc_ind {α : Type} {P : List α → Prop} (h0 : P []) (h1 : ∀ l x, P l → P (l ++ [x])) : ∀ l, P l := fun l => by
  have go : ∀ r : List α, P r.reverse := fun r => by
    induction r with
    | nil => exact h0
    | cons x r ih =>
      rw [List.reverse_cons]
      exact h1 _ _ ih
  have := go l.reverse
  rwa [List.reverse_reverse] at this
/-- each is a number from 1 on, at most a power of four -/
theorem widths_le : ∀ ss : List Stp, (∀ i s, ss[i]? = some s → StW i s) → ∀ (i : Nat) (x : Int), (widthsS ss)[i]? = some x → 1 ≤ x ∧ x ≤ ((4 ^ i : Nat) : Int) := by
  refine snoc_ind (fun _ i x z => by cases z) fun ss s ih h i x hx => ?_
  have h' : ∀ i s, ss[i]? = some s → StW i s := fun i s' hs => h i s' (by rw [List.getElem?_append_left (List.getElem?_eq_some_iff.mp hs).1]; exact hs)
  have wl := widths_len ss
  rw [widths_snoc] at hx
  rcases Nat.lt_or_ge i ss.length with l | l
  · rw [List.getElem?_append_left (by omega)] at hx
    exact ih h' i x hx
  · rw [List.getElem?_append_right (by omega)] at hx
    have i0 : i - (widthsS ss).length = 0 := by
      have := (List.getElem?_eq_some_iff.mp hx).1
      simp at this
      omega
    rw [i0] at hx
    cases hx
    have ei : i = ss.length := by omega
    subst ei
    have sw := h ss.length s (by simp)
    have ns : s.nums.length ≤ 3 ∧ ∀ m ∈ s.nums, m < ss.length := by
      cases s with
      | shown i => exact ⟨Nat.zero_le _, fun _ z => (List.not_mem_nil z).elim⟩
      | word x => exact ⟨Nat.zero_le _, fun _ z => (List.not_mem_nil z).elim⟩
      | make c ns => exact ⟨sw.2.2.2.1, sw.2.2.2.2⟩
      | opn c ns => exact ⟨sw.2.2.2.1, sw.2.2.2.2⟩
    have each : ∀ y ∈ (s.nums.map fun n => (widthsS ss).getD n 0), 1 ≤ y ∧ y ≤ ((4 ^ (ss.length - 1) : Nat) : Int) := fun y hy => by
      obtain ⟨m, hm, rfl⟩ := List.mem_map.mp hy
      have ml := ns.2 m hm
      have hg : (widthsS ss)[m]? = some ((widthsS ss)[m]'(by omega)) := List.getElem?_eq_getElem (by omega)
      have e : (widthsS ss).getD m 0 = (widthsS ss)[m]'(by omega) := by rw [List.getD_eq_getElem?_getD, hg]; rfl
      rw [e]
      obtain ⟨a, b⟩ := ih h' m _ hg
      refine ⟨a, Int.le_trans b ?_⟩
      have : 4 ^ m ≤ 4 ^ (ss.length - 1) := Nat.pow_le_pow_right (by decide) (by omega)
      exact_mod_cast this
    have sumL : ∀ (l : List Int) (b : Int), 0 ≤ b → (∀ y ∈ l, 1 ≤ y ∧ y ≤ b) → 0 ≤ l.sum ∧ l.sum ≤ b * l.length := fun l b hb => by
      induction l with
      | nil => intro _; simp
      | cons y l ihl =>
        intro hy
        obtain ⟨a1, a2⟩ := hy y (List.mem_cons_self ..)
        obtain ⟨b1, b2⟩ := ihl fun z hz => hy z (List.mem_cons_of_mem _ hz)
        rw [List.sum_cons, List.length_cons, Int.natCast_succ, Int.mul_add]
        omega
    obtain ⟨c1, c2⟩ := sumL _ _ (Int.natCast_nonneg _) each
    rw [List.length_map] at c2
    refine ⟨by omega, ?_⟩
    rcases Nat.eq_zero_or_pos ss.length with z | z
    · have : s.nums = [] := by
        cases hn : s.nums with
        | nil => rfl
        | cons m r =>
          have := ns.2 m (by rw [hn]; exact List.mem_cons_self ..)
          omega
      rw [this]
      have : (1 : Nat) ≤ 4 ^ ss.length := Nat.one_le_pow _ _ (by decide)
      have : (1 : Int) ≤ ((4 ^ ss.length : Nat) : Int) := by exact_mod_cast this
      simpa using this
    · have e4 : 4 ^ ss.length = 4 ^ (ss.length - 1) * 4 := by rw [← Nat.pow_succ]; congr 1; omega
      have p1 : 1 ≤ 4 ^ (ss.length - 1) := Nat.one_le_pow _ _ (by decide)
      generalize 4 ^ (ss.length - 1) = q at e4 p1 c2
      rw [e4]
      have : (q : Int) * (s.nums.length : Nat) ≤ (q : Int) * 3 := Int.mul_le_mul_of_nonneg_left (by omega) (by omega)
      omega
theorem spC : tl spS = 32 :: [] := by decide +kernel
theorem scC : tl scS = 59 :: [] := by decide +kernel
theorem isW_free {x : Str} (h : isW x = true) : 32 ∉ tl x ∧ 59 ∉ tl x := by
  have a : x.cps.toList.all (inS ABC) = true := by
    unfold isW at h
    rw [Bool.and_eq_true] at h
    exact h.2
  have n32 : inS ABC 32 = false := by decide +kernel
  have n59 : inS ABC 59 = false := by decide +kernel
  refine ⟨fun z => ?_, fun z => ?_⟩
  · have := List.all_eq_true.mp a 32 z
    rw [n32] at this
    cases this
  · have := List.all_eq_true.mp a 59 z
    rw [n59] at this
    cases this
theorem lit_free : (32 ∉ tl (lsS "shown") ∧ 59 ∉ tl (lsS "shown")) ∧ (32 ∉ tl (lsS "word") ∧ 59 ∉ tl (lsS "word")) ∧ (32 ∉ tl (lsS "make") ∧ 59 ∉ tl (lsS "make")) ∧ (32 ∉ tl (lsS "open") ∧ 59 ∉ tl (lsS "open")) := by decide +kernel
theorem stW_free {i : Nat} {s : Stp} (h : StW i s) (i300 : i ≤ 300) : ∀ x ∈ stW s, 32 ∉ tl x ∧ 59 ∉ tl x := by
  obtain ⟨l1, l2, l3, l4⟩ := lit_free
  have ns3 : ∀ (ns : List Nat), (∀ m ∈ ns, m < i) → ∀ x ∈ ns.map nums, 32 ∉ tl x ∧ 59 ∉ tl x := fun ns h x hx => by
    obtain ⟨m, hm, rfl⟩ := List.mem_map.mp hx
    exact nums_free m (by have := h m hm; omega)
  intro x hx
  cases s with
  | shown k =>
    simp only [stW, List.mem_cons, List.not_mem_nil, or_false] at hx
    rcases hx with rfl | rfl
    · exact l1
    · exact nums_free k h
  | word y =>
    simp only [stW, List.mem_cons, List.not_mem_nil, or_false] at hx
    rcases hx with rfl | rfl
    · exact l2
    · exact isW_free h.1
  | make c ns =>
    simp only [stW, List.mem_cons] at hx
    rcases hx with rfl | rfl | hx
    · exact l3
    · exact isW_free h.1
    · exact ns3 ns h.2.2.2.2 x hx
  | opn c ns =>
    simp only [stW, List.mem_cons] at hx
    rcases hx with rfl | rfl | hx
    · exact l4
    · exact isW_free h.1
    · exact ns3 ns h.2.2.2.2 x hx
theorem stW_ne (s : Stp) : stW s ≠ [] := by cases s <;> simp [stW]
theorem st_split {i : Nat} {s : Stp} (h : StW i s) (i300 : i ≤ 300) : Txt.split (stT s) spS = stW s :=
  split_join (s := 32) (S := []) spC (by decide +kernel) (stW_ne s) fun p hp => (stW_free h i300 p hp).1
theorem joinL_free {s : Nat} {S : List Nat} (hS : s ∉ S) : ∀ {ps : List (List Nat)}, (∀ p ∈ ps, s ∉ p) → s ∉ joinL S ps
  | [], _ => by simp [joinL]
  | [p], h => h p (List.mem_cons_self ..)
  | p :: q :: r, h => by
    show s ∉ p ++ (S ++ joinL S (q :: r))
    intro z
    rcases List.mem_append.mp z with z | z
    · exact h p (List.mem_cons_self ..) z
    · rcases List.mem_append.mp z with z | z
      · exact hS z
      · exact joinL_free hS (fun x hx => h x (List.mem_cons_of_mem _ hx)) z
theorem stT_free {i : Nat} {s : Stp} (h : StW i s) (i300 : i ≤ 300) : 59 ∉ tl (stT s) := by
  unfold stT
  rw [join_eq, tl_join]
  refine joinL_free (by decide +kernel) fun p hp => ?_
  obtain ⟨x, hx, rfl⟩ := List.mem_map.mp hp
  exact (stW_free h i300 x hx).2
theorem rc_split {ss : List Stp} (h : RcW ss) : Txt.split (rcT ss) scS = ss.map stT := by
  refine split_join (s := 59) (S := []) scC (by decide +kernel) (fun z => ?_) fun p hp => ?_
  · have := h.2.1
    rw [List.map_eq_nil_iff.mp z] at this
    simp at this
  · obtain ⟨s, hs, rfl⟩ := List.mem_map.mp hp
    obtain ⟨i, hi⟩ := List.getElem?_of_mem hs
    have : i < ss.length := (List.getElem?_eq_some_iff.mp hi).1
    exact stT_free (h.1 i s hi) (by have := h.2.2; omega)
theorem nums_inj {a b : Nat} (ha : a ≤ 300) (hb : b ≤ 300) (h : nums a = nums b) : a = b := by
  have e := numIn_nums a ha
  rw [h, numIn_nums b hb] at e
  injection e with e
  omega
theorem numsL_inj : ∀ {as bs : List Nat}, (∀ a ∈ as, a ≤ 300) → (∀ b ∈ bs, b ≤ 300) → as.map nums = bs.map nums → as = bs
  | [], [], _, _, _ => rfl
  | [], _ :: _, _, _, h => by cases h
  | _ :: _, [], _, _, h => by cases h
  | a :: as, b :: bs, ha, hb, h => by
    rw [List.map_cons, List.map_cons] at h
    injection h with h1 h2
    rw [nums_inj (ha a (List.mem_cons_self ..)) (hb b (List.mem_cons_self ..)) h1, numsL_inj (fun x hx => ha x (List.mem_cons_of_mem _ hx)) (fun x hx => hb x (List.mem_cons_of_mem _ hx)) h2]
theorem lit_ne : lsS "shown" ≠ lsS "word" ∧ lsS "shown" ≠ lsS "make" ∧ lsS "shown" ≠ lsS "open" ∧ lsS "word" ≠ lsS "make" ∧ lsS "word" ≠ lsS "open" ∧ lsS "make" ≠ lsS "open" := by decide +kernel
theorem stW_inj {i j : Nat} {s s' : Stp} (h : StW i s) (h' : StW j s') (i300 : i ≤ 300) (j300 : j ≤ 300) (e : stW s = stW s') : s = s' := by
  obtain ⟨n1, n2, n3, n4, n5, n6⟩ := lit_ne
  have le : ∀ {k : Nat} {ns : List Nat}, (∀ m ∈ ns, m < k) → k ≤ 300 → ∀ m ∈ ns, m ≤ 300 := fun h hk m hm => by have := h m hm; omega
  cases s with
  | shown a =>
    cases s' with
    | shown b =>
      simp only [stW, List.cons.injEq] at e
      rw [nums_inj h h' e.2.1]
    | word y => simp only [stW, List.cons.injEq] at e; exact absurd e.1 n1
    | make c ns => simp only [stW, List.cons.injEq] at e; exact absurd e.1 n2
    | opn c ns => simp only [stW, List.cons.injEq] at e; exact absurd e.1 n3
  | word x =>
    cases s' with
    | shown b => simp only [stW, List.cons.injEq] at e; exact absurd e.1.symm n1
    | word y =>
      simp only [stW, List.cons.injEq] at e
      rw [e.2.1]
    | make c ns => simp only [stW, List.cons.injEq] at e; exact absurd e.1 n4
    | opn c ns => simp only [stW, List.cons.injEq] at e; exact absurd e.1 n5
  | make c ns =>
    cases s' with
    | shown b => simp only [stW, List.cons.injEq] at e; exact absurd e.1.symm n2
    | word y => simp only [stW, List.cons.injEq] at e; exact absurd e.1.symm n4
    | make c' ns' =>
      simp only [stW, List.cons.injEq] at e
      rw [e.2.1, numsL_inj (le h.2.2.2.2 i300) (le h'.2.2.2.2 j300) e.2.2]
    | opn c' ns' => simp only [stW, List.cons.injEq] at e; exact absurd e.1 n6
  | opn c ns =>
    cases s' with
    | shown b => simp only [stW, List.cons.injEq] at e; exact absurd e.1.symm n3
    | word y => simp only [stW, List.cons.injEq] at e; exact absurd e.1.symm n5
    | make c' ns' => simp only [stW, List.cons.injEq] at e; exact absurd e.1.symm n6
    | opn c' ns' =>
      simp only [stW, List.cons.injEq] at e
      rw [e.2.1, numsL_inj (le h.2.2.2.2 i300) (le h'.2.2.2.2 j300) e.2.2]
theorem rcT_inj {a b : List Stp} (ha : RcW a) (hb : RcW b) (e : rcT a = rcT b) : a = b := by
  have e1 : a.map stT = b.map stT := by rw [← rc_split ha, ← rc_split hb, e]
  have ll : a.length = b.length := by simpa using congrArg List.length e1
  refine List.ext_getElem? fun i => ?_
  rcases Nat.lt_or_ge i a.length with l | l
  · have h1 : a[i]? = some a[i] := List.getElem?_eq_getElem l
    have h2 : b[i]? = some (b[i]'(by omega)) := List.getElem?_eq_getElem (by omega)
    rw [h1, h2]
    have t : stT a[i] = stT (b[i]'(by omega)) := by
      have := congrArg (fun l => l[i]?) e1
      simp only [List.getElem?_map, h1, h2, Option.map_some] at this
      injection this
    have i3 : i ≤ 300 := by have := ha.2.2; omega
    have w : stW a[i] = stW (b[i]'(by omega)) := by rw [← st_split (ha.1 i _ h1) i3, ← st_split (hb.1 i _ h2) i3, t]
    rw [stW_inj (ha.1 i _ h1) (hb.1 i _ h2) i3 i3 w]
  · rw [List.getElem?_eq_none l, List.getElem?_eq_none (by omega)]
theorem dig_int : ∀ c ∈ DIG.cps.toList, PySem.intText? ⟨#[c]⟩ = some ((c : Int) - 48) := by decide +kernel
theorem callR_or {X : Cx} {f : Value} {r1 r2 : List V → Hp → VK → Prop} (h1 : CallR X f r1) (h2 : CallR X f r2) : CallR X f (fun xs H Q => r1 xs H Q ∨ r2 xs H Q) := by
  intro pins s σ H xs us Q I r h
  exact h.elim (h1 pins s σ H xs us Q I r) (h2 pins s σ H xs us Q I r)
theorem call_str_any {X : Cx} : CallR X (.type "str") (fun xs H Q => (∃ i, xs = [.int i] ∧ i.natAbs.log2 < 1920 ∧ Q (.str (PySem.Str.ofString (toString i))) H) ∨ (∃ a, xs = [.str a] ∧ Q (.str a) H)) := callR_or call_str_int SkE.call_str_str
theorem isW_len {x : Str} (h : isW x = true) : x.length ≤ 8 := by
  unfold isW shortS at h
  rw [Bool.and_eq_true, Bool.and_eq_true] at h
  exact of_decide_eq_true h.1.2
theorem lit_len : (lsS "shown").length ≤ 8 ∧ (lsS "word").length ≤ 8 ∧ (lsS "make").length ≤ 8 ∧ (lsS "open").length ≤ 8 := by decide +kernel
theorem stW_len {i : Nat} {s : Stp} (h : StW i s) (i300 : i ≤ 300) : (stW s).length ≤ 5 ∧ ∀ x ∈ stW s, x.length ≤ 8 := by
  obtain ⟨l1, l2, l3, l4⟩ := lit_len
  have ns3 : ∀ (ns : List Nat), (∀ m ∈ ns, m < i) → ∀ x ∈ ns.map nums, x.length ≤ 8 := fun ns h x hx => by
    obtain ⟨m, hm, rfl⟩ := List.mem_map.mp hx
    have := nums_len m (by have := h m hm; omega)
    omega
  cases s with
  | shown k =>
    refine ⟨by simp [stW], fun x hx => ?_⟩
    simp only [stW, List.mem_cons, List.not_mem_nil, or_false] at hx
    rcases hx with rfl | rfl
    · exact l1
    · have := nums_len k h
      omega
  | word y =>
    refine ⟨by simp [stW], fun x hx => ?_⟩
    simp only [stW, List.mem_cons, List.not_mem_nil, or_false] at hx
    rcases hx with rfl | rfl
    · exact l2
    · exact isW_len h.1
  | make c ns =>
    refine ⟨by simp only [stW, List.length_cons, List.length_map]; have := h.2.2.2.1; omega, fun x hx => ?_⟩
    simp only [stW, List.mem_cons] at hx
    rcases hx with rfl | rfl | hx
    · exact l3
    · exact isW_len h.1
    · exact ns3 ns h.2.2.2.2 x hx
  | opn c ns =>
    refine ⟨by simp only [stW, List.length_cons, List.length_map]; have := h.2.2.2.1; omega, fun x hx => ?_⟩
    simp only [stW, List.mem_cons] at hx
    rcases hx with rfl | rfl | hx
    · exact l4
    · exact isW_len h.1
    · exact ns3 ns h.2.2.2.2 x hx
theorem spL : spS.length = 1 ∧ scS.length = 1 := by decide +kernel
theorem sumW {l : List Str} {k : Nat} (h : ∀ x ∈ l, x.length ≤ k) : (l.map (·.length)).sum ≤ k * l.length := by
  have := sum_le (k := k) (l := l.map (·.length)) fun x hx => by
    obtain ⟨y, hy, rfl⟩ := List.mem_map.mp hx
    exact h y hy
  rwa [List.length_map] at this
theorem stT_len {i : Nat} {s : Stp} (h : StW i s) (i300 : i ≤ 300) : (stT s).length ≤ 50 ∧ ((stW s).map (·.length)).sum + (stW s).length * spS.length ≤ 50 := by
  obtain ⟨l1, l2⟩ := stW_len h i300
  have s1 := sumW l2
  have j := join_len (y := spS) (ps := stW s) (stW_ne s)
  have e1 := spL.1
  rw [e1] at j ⊢
  have : 8 * (stW s).length ≤ 8 * 5 := Nat.mul_le_mul_left _ l1
  refine ⟨?_, by omega⟩
  unfold stT
  rw [join_eq]
  omega
theorem rcT_len {ss : List Stp} (h : RcW ss) : (rcT ss).length ≤ 20000 ∧ ((ss.map stT).map (·.length)).sum + (ss.map stT).length * scS.length ≤ 20000 := by
  have each : ∀ x ∈ ss.map stT, x.length ≤ 50 := fun x hx => by
    obtain ⟨s, hs, rfl⟩ := List.mem_map.mp hx
    obtain ⟨i, hi⟩ := List.getElem?_of_mem hs
    have : i < ss.length := (List.getElem?_eq_some_iff.mp hi).1
    exact (stT_len (h.1 i s hi) (by have := h.2.2; omega)).1
  have s1 := sumW each
  have l1 := h.2.1
  have l2 := h.2.2
  have j := join_len (y := scS) (ps := ss.map stT) (fun z => by rw [List.map_eq_nil_iff.mp z] at l1; simp at l1)
  have e1 := spL.2
  rw [e1] at j ⊢
  rw [List.length_map] at s1 j ⊢
  refine ⟨?_, by omega⟩
  unfold rcT
  rw [join_eq]
  omega
theorem nums_str (n : Nat) : PySem.Str.ofString (toString ((n : Nat) : Int)) = nums n := rfl
theorem widths_last {ss : List Stp} (h : 1 ≤ ss.length) : ∃ init, widthsS ss = init ++ [widthS ss] := by
  have wl := widths_len ss
  rcases List.eq_nil_or_concat (widthsS ss) with z | ⟨L, b, e⟩
  · rw [z] at wl
    simp at wl
    omega
  · have e : widthsS ss = L ++ [b] := by simpa using e
    refine ⟨L, ?_⟩
    unfold widthS
    rw [e]
    simp
/-- the step that words tell with so many steps ahead -/
def numsIn (at_ : Nat) : List Str → Option (List Nat)
  | [] => some []
  | x :: xs => match numIn x with
    | some n => if n < (at_ : Int) then (numsIn at_ xs).map (n.toNat :: ·) else none
    | none => none
def stepIn (at_ : Nat) (ws : List Str) : Option Stp :=
  match ws with
  | [w0, w1] => if w0 = lsS "word" then (if isW w1 = true then some (.word w1) else none) else if w0 = lsS "shown" then (numIn w1).map (fun n => .shown n.toNat) else none
  | w0 :: w1 :: w2 :: r => if r.length ≤ 2 ∧ (w0 = lsS "make" ∨ w0 = lsS "open") ∧ isW w1 = true then (numsIn at_ (w2 :: r)).map (fun ns => if w0 = lsS "make" then .make w1 ns else .opn w1 ns) else none
  | _ => none
theorem valN_nn : ∀ (l : List Nat) (a : Int), 0 ≤ a → l.all (inS DIG) = true → 0 ≤ l.foldl (fun (a : Int) (c : Nat) => 10 * a + ((c : Int) - 48)) a
  | [], a, h, _ => h
  | c :: l, a, h, hd => by
    rw [List.all_cons, Bool.and_eq_true] at hd
    have c48 : 48 ≤ c := by
      have : ∀ c ∈ DIG.cps.toList, 48 ≤ c := by decide +kernel
      exact this c (of_decide_eq_true hd.1)
    exact valN_nn l _ (by dsimp only; omega) hd.2
theorem numIn_nn {x : Str} {n : Int} (h : numIn x = some n) : 0 ≤ n := by
  unfold numIn at h
  split at h
  · cases h
  · rename_i h1
    split at h
    · cases h
    · cases h
      exact valN_nn _ 0 (Int.le_refl _) (Decidable.byContradiction fun z => h1 (.inr z))
theorem numsIn_nums {at_ : Nat} : ∀ {ns : List Nat}, (∀ m ∈ ns, m < at_) → at_ ≤ 300 → numsIn at_ (ns.map nums) = some ns
  | [], _, _ => rfl
  | n :: ns, h, a3 => by
    have n1 := h n (List.mem_cons_self ..)
    show (match numIn (nums n) with | some k => if k < (at_ : Int) then (numsIn at_ (ns.map nums)).map (k.toNat :: ·) else none | none => none) = _
    rw [numIn_nums n (by omega)]
    show (if ((n : Nat) : Int) < (at_ : Int) then (numsIn at_ (ns.map nums)).map (((n : Nat) : Int).toNat :: ·) else none) = _
    rw [if_pos (by omega), numsIn_nums (fun m hm => h m (List.mem_cons_of_mem _ hm)) a3]
    rfl
theorem stepIn_stW {i : Nat} {s : Stp} (h : StW i s) (i3 : i ≤ 300) : stepIn i (stW s) = some s := by
  obtain ⟨n1, n2, n3, n4, n5, n6⟩ := lit_ne
  cases s with
  | shown k =>
    show stepIn i [lsS "shown", nums k] = _
    unfold stepIn
    dsimp only
    rw [if_neg n1, if_pos rfl, numIn_nums k h]
    rfl
  | word x =>
    show stepIn i [lsS "word", x] = _
    unfold stepIn
    dsimp only
    rw [if_pos rfl, if_pos h.1]
  | make c ns =>
    obtain ⟨h1, _, h3, h4, h5⟩ := h
    cases ns with
    | nil => simp at h3
    | cons n r =>
      show stepIn i (lsS "make" :: c :: nums n :: r.map nums) = _
      unfold stepIn
      dsimp only
      rw [if_pos ⟨by rw [List.length_map]; simpa using h4, .inl rfl, h1⟩, show nums n :: r.map nums = (n :: r).map nums from rfl, numsIn_nums h5 i3]
      simp
  | opn c ns =>
    obtain ⟨h1, _, h3, h4, h5⟩ := h
    cases ns with
    | nil => simp at h3
    | cons n r =>
      show stepIn i (lsS "open" :: c :: nums n :: r.map nums) = _
      unfold stepIn
      dsimp only
      rw [if_pos ⟨by rw [List.length_map]; simpa using h4, .inr rfl, h1⟩, show nums n :: r.map nums = (n :: r).map nums from rfl, numsIn_nums h5 i3]
      simp [n6.symm]
theorem stepIn_few {a : Nat} : ∀ {ws : List Str}, ws.length < 2 → stepIn a ws = none
  | [], _ => rfl
  | [_], _ => rfl
  | _ :: _ :: _, h => by simp only [List.length_cons] at h; omega
theorem two_list {α : Type} : ∀ {ws : List α}, ws.length = 2 → ∃ w0 w1, ws = [w0, w1]
  | [w0, w1], _ => ⟨w0, w1, rfl⟩
  | [], h => by simp at h
  | [_], h => by simp at h
  | _ :: _ :: _ :: _, h => by simp only [List.length_cons] at h; omega
theorem three_of {α : Type} : ∀ {ws : List α}, 3 ≤ ws.length → ∃ w0 w1 w2 r, ws = w0 :: w1 :: w2 :: r
  | w0 :: w1 :: w2 :: r, _ => ⟨w0, w1, w2, r, rfl⟩
  | [], h => by simp at h
  | [_], h => by simp at h
  | [_, _], h => by simp at h
theorem stepIn_long {a : Nat} {w0 w1 w2 : Str} {r : List Str} : stepIn a (w0 :: w1 :: w2 :: r) = if r.length ≤ 2 ∧ (w0 = lsS "make" ∨ w0 = lsS "open") ∧ isW w1 = true then (numsIn a (w2 :: r)).map (fun ns => if w0 = lsS "make" then .make w1 ns else .opn w1 ns) else none := rfl
theorem stepIn_two {a : Nat} {w0 w1 : Str} : stepIn a [w0, w1] = if w0 = lsS "word" then (if isW w1 = true then some (.word w1) else none) else if w0 = lsS "shown" then (numIn w1).map (fun n => .shown n.toNat) else none := rfl
def optI : Option Int → V
  | some n => .int n
  | none => .non
/-- what the numbers are, one by one -/
def okI (a : Nat) : Option Int → Bool
  | some n => decide (n < (a : Int))
  | none => false
theorem numsIn_all {a : Nat} : ∀ (xs : List Str), (((xs.map numIn).map (okI a)).all id = true → numsIn a xs = some ((xs.map numIn).map fun o => (o.getD 0).toNat)) ∧ (((xs.map numIn).map (okI a)).all id = false → numsIn a xs = none)
  | [] => ⟨fun _ => rfl, fun z => by cases z⟩
  | x :: xs => by
    obtain ⟨h1, h2⟩ := numsIn_all (a := a) xs
    have e : numsIn a (x :: xs) = match numIn x with
      | some n => if n < (a : Int) then (numsIn a xs).map (n.toNat :: ·) else none
      | none => none := rfl
    rw [e]
    simp only [List.map_cons, List.all_cons]
    cases hx : numIn x with
    | none => exact ⟨fun z => by simp [okI] at z, fun _ => rfl⟩
    | some n =>
      by_cases hn : n < (a : Int)
      · rw [show okI a (some n) = true from decide_eq_true hn]
        refine ⟨fun z => ?_, fun z => ?_⟩
        · have z : ((xs.map numIn).map (okI a)).all id = true := by simpa using z
          show (if n < (a : Int) then (numsIn a xs).map (n.toNat :: ·) else none) = _
          rw [if_pos hn, h1 z]
          rfl
        · have z : ((xs.map numIn).map (okI a)).all id = false := by simpa using z
          show (if n < (a : Int) then (numsIn a xs).map (n.toNat :: ·) else none) = _
          rw [if_pos hn, h2 z]
          rfl
      · rw [show okI a (some n) = false from decide_eq_false hn]
        exact ⟨fun z => by simp at z, fun _ => if_neg hn⟩
theorem inV_two {a b x : Str} : inV (.str x) [.str a, .str b] = decide (x = a ∨ x = b) := by
  have e : ∀ a b : Str, eqV (.str a) (.str b) = decide (a = b) := fun a b => by
    show (a == b) = decide (a = b)
    by_cases h : a = b
    · subst h
      rw [decide_eq_true rfl]
      exact beq_self_eq_true a
    · rw [decide_eq_false h]
      exact beq_false_of_ne h
  simp only [inV, List.any_cons, List.any_nil, e, Bool.or_false]
  by_cases h1 : a = x <;> by_cases h2 : b = x <;> simp [h1, h2, eq_comm]
theorem getD_all {a : Nat} {os : List (Option Int)} (h : (os.map (okI a)).all id = true) : os.map optI = (os.map fun o => (o.getD 0)).map V.int := by
  rw [List.map_map]
  refine List.map_congr_left fun o ho => ?_
  cases o with
  | some n => rfl
  | none =>
    have := List.all_eq_true.mp h (okI a none) (List.mem_map_of_mem ho)
    cases this
end Mine

set_option Elab.async false
set_option linter.all false
set_option maxRecDepth 100000
set_option maxHeartbeats 1000000
namespace K15
open PySem PySem.Spec PyProof.Rows L2 Mine TL StX SkE
/-! is_word, number_in. -/
abbrev sWord8 : Stmt := top 5
abbrev sNumIn : Stmt := top 7
def spNumIn : Sp := fun vs H Q _ => ∃ x : Str, vs = [.str x] ∧ x.length ≤ 100000 ∧ (∀ n H', numIn x = some n → Same H H' → Q (.int n) H') ∧ (∀ H', numIn x = none → Same H H' → Q .non H')
theorem isW_by (x : Str) : isW x = (decide (x.length ≤ 8) && (Txt.isascii x && (Txt.isalpha x && Txt.islower x))) := by
  rw [word_by]
  unfold isW shortS
  rw [Bool.and_comm (decide (1 ≤ x.length)), Bool.and_assoc]
  rfl
theorem dig_by (x : Str) : (Txt.isascii x && Txt.isdigit x) = (decide (1 ≤ x.length) && x.cps.toList.all (inS DIG)) := digs_by x
section
variable {P : Program} {w : World} {K : PySem.W.Frag} {mg : Str → Option Value} {base : Heap}
abbrev nWord8 : List Str := ["thing"]
theorem scWord8 : FnScope nWord8 ["thing"] (defScope sWord8) := ⟨rfl, rfl, rfl, by decide +kernel, rfl, by decide +kernel, by decide +kernel⟩
theorem ok_Word8  {f : Addr} {fd : FuncData} (F : Fun K "is_word" "is_word" sWord8 f fd) (B : Bi mg) (g_LONGEST : ∃ u, mg "LONGEST" = some u ∧ RelV (.int 8) u) : FnOk P w K mg base CX0 (1) f fd ["thing"] (spIs K isW) := by
  refine F.ok scWord8 (fun vs H Q E h => ?_) (fun cdv A outer s H vs Q E hr h => ?_)
  · obtain ⟨v, rfl, _⟩ := h
    rfl
  · obtain ⟨v, rfl, h⟩ := h
    have line : sizeLine = 16777216 := sizeLine_eq
    refine ⟨_, (pss_one (ps_ret (pe_and (pe_callB call_isi (by rfl) B.isinstance (by decide +kernel) (pa_cons (pv 0) (pa_cons (pe_bltn (v := .ty "str") rfl B.str (by decide +kernel) rfl) pa_nil))) (pe_and (pe_cmpR op_le (pe_callB call_len_str (by rfl) B.len PySem.boot_len (pa_cons (pv 0) pa_nil)) (C8.pe_gc (v := .int 8) (by rfl) g_LONGEST) (nomark _)) (pe_and (pe_m0 PySem.F.slot_str_isascii PySem.F.type_str_isascii mt_isascii (pv 0)) (pe_and (pe_m0 PySem.F.slot_str_isalpha PySem.F.type_str_isalpha mt_isalpha (pv 0)) (pe_one (pe_m0 PySem.F.slot_str_islower PySem.F.type_str_islower mt_islower (pv 0))))))))), ?_⟩
    rcases h with ⟨x, rfl, sz, k⟩ | ⟨⟨t, ty, kt⟩, k⟩
    · refine ⟨_, rfl, _, _, _, _, true, rfl, .ty "str", .base (.str x), kit_ty rfl, _, rfl, ite2 (fun _ => ?_) (fun z => absurd rfl z)⟩
      have k := k H same_rfl
      rw [isW_by] at k
      refine ⟨_, rfl, x, rfl, sz, _, _, rfl, rfl, _, rfl, ite2 (fun h1 => ?_) (fun h1 => ?_)⟩
      · have l8 : x.length ≤ 8 := by
          have := of_decide_eq_true h1
          omega
        rw [decide_eq_true l8, Bool.true_and] at k
        refine ⟨_, rfl, ⟨x, rfl⟩, x, rfl, rfl, trivial, _, rfl, ite2 (fun h2 => ?_) (fun h2 => ?_)⟩
        · rw [h2, Bool.true_and] at k
          refine ⟨_, rfl, ⟨x, rfl⟩, x, rfl, rfl, trivial, _, rfl, ite2 (fun h3 => ?_) (fun h3 => ?_)⟩
          · rw [h3, Bool.true_and] at k
            exact ⟨_, rfl, ⟨x, rfl⟩, x, rfl, rfl, trivial, k⟩
          · rw [Bool.eq_false_iff.mpr h3] at k
            exact k
        · rw [Bool.eq_false_iff.mpr h2] at k
          exact k
      · have l8 : ¬ x.length ≤ 8 := fun z => h1 (decide_eq_true (by omega))
        rw [decide_eq_false l8] at k
        exact k
    · exact ⟨_, rfl, _, _, _, _, false, rfl, .ty "str", ty, kt, _, rfl, ite2 (fun z => absurd z (by decide)) (fun _ => k H same_rfl)⟩
abbrev nNumIn : List Str := ["word", "number", "sign"]
theorem scNumIn : FnScope nNumIn ["word"] (defScope sNumIn) := ⟨rfl, rfl, rfl, by decide +kernel, rfl, by decide +kernel, by decide +kernel⟩
theorem ok_NumIn  {f : Addr} {fd : FuncData} (F : Fun K "number_in" "number_in" sNumIn f fd) (B : Bi mg) : FnOk P w K mg base CX0 (1) f fd ["word"] (spNumIn) := by
  refine F.ok scNumIn (fun vs H Q E h => ?_) (fun cdv A outer s H vs Q E hr h => ?_)
  · obtain ⟨x, rfl, _⟩ := h
    rfl
  · obtain ⟨x, rfl, x1, kS, kN⟩ := h
    have line : sizeLine = 16777216 := sizeLine_eq
    refine ⟨_, (pss_cons (ps_if (PW.pt (pw_or (pt_not (pt_val (pe_m0 PySem.F.slot_str_isascii PySem.F.type_str_isascii mt_isascii (pv 0)))) (pw_or1 (pt_not (pt_val (pe_m0 PySem.F.slot_str_isdigit PySem.F.type_str_isdigit mt_isdigit (pv 0))))))) (pss_one (ps_ret pe_non)) pss_nil)
      (pss_cons (ps_if (pt_cut (PW.pt (pw_and (pt_cmpR op_eq (pe_ix ix_str (pv 0) pe_int (fun _ _ => rfl)) pe_str (nomark _)) (pw_and1 (pt_cmpR op_gt (pe_callB call_len_str (by rfl) B.len PySem.boot_len (pa_cons (pv 0) pa_nil)) pe_int (nomark _)))))) (pss_one (ps_ret pe_non)) pss_nil)
      (pss_cons (ps_set (i := 1) scNumIn.nd rfl (.inl rfl) pe_int)
      (pss_cons (ps_for PassesOwn.never rfl (pi_str (pv 0)) (pg_name (i := 2) scNumIn.nd rfl (Or.inl rfl))
        (pss_one (ps_set (i := 1) scNumIn.nd rfl (.inl rfl) (pe_op op_add (pe_op op_mul pe_int (pv 1)) (pe_callTy call_int_str (by rfl) B.int (by decide +kernel) (pa_cons (pv 2) pa_nil))))))
      (pss_one (ps_ret (pv 1))))))), ?_⟩
    have xl : x.cps.toList.length = x.length := by simp [Str.length]
    have hs : x.cps.size = x.length := rfl
    have db := dig_by x
    have none_ : (Txt.isascii x && Txt.isdigit x) = false → numIn x = none := fun z => by
      rw [db] at z
      unfold numIn
      refine if_pos ?_
      rcases Bool.and_eq_false_iff.mp z with z | z
      · left
        have := of_decide_eq_false z
        exact List.eq_nil_of_length_eq_zero (by rw [xl]; omega)
      · right
        rw [z]
        decide
    refine ⟨_, rfl, ⟨x, rfl⟩, x, rfl, rfl, trivial, _, rfl, ?_⟩
    cases ha : Txt.isascii x with
    | false => exact kN H (none_ (by rw [ha]; rfl)) same_rfl
    | true =>
    refine ite2 (fun z => absurd z (by decide)) (fun _ => ?_)
    refine ⟨_, rfl, ⟨x, rfl⟩, x, rfl, rfl, trivial, _, rfl, ?_⟩
    cases hd : Txt.isdigit x with
    | false => exact kN H (none_ (by rw [hd, Bool.and_false])) same_rfl
    | true =>
    refine ite2 (fun z => absurd z (by decide)) (fun _ => ?_)
    rw [ha, hd] at db
    have db := Bool.and_eq_true_iff.mp db.symm
    have l1 := of_decide_eq_true db.1
    have dig := db.2
    have s1 : Same H H := same_rfl
    obtain ⟨c0, r0, hx⟩ : ∃ c0 r0, x.cps.toList = c0 :: r0 := by
      cases q : x.cps.toList with
      | nil =>
        exfalso
        rw [← xl, q] at l1
        exact absurd l1 (by decide)
      | cons c0 r0 => exact ⟨c0, r0, rfl⟩
    have ne1 : ¬ (x.cps.toList = [] ∨ ¬ x.cps.toList.all (inS DIG) = true) := fun z => z.elim (fun z => by rw [hx] at z; cases z) fun z => z dig
    refine ⟨fun b H' => b = decide (x.cps.toList.head? = some 48 ∧ 1 < x.cps.toList.length) ∧ Same H H', ?_, ?_⟩
    · have hd0 : x.cps.toList.head? = some c0 := by rw [hx]; rfl
      have chr : decide (V.str ⟨#[c0]⟩ = V.str (PySem.Str.ofString "0")) = decide (c0 = 48) := by
        have e48 : PySem.Str.ofString "0" = ⟨#[48]⟩ := by decide +kernel
        rw [e48]
        by_cases h : c0 = 48
        · rw [h]
          rfl
        · rw [decide_eq_false h, decide_eq_false]
          intro y
          injection y with y
          injection y with y
          have y := congrArg (fun a => a.toList) y
          injection y with y _
          exact h y
      refine ⟨_, rfl, x, 0, c0, rfl, rfl, by omega, (by rw [hx]; exact atI_nat (j := 0) rfl), rfl, _, rfl, ?_⟩
      rw [chr]
      by_cases h48 : c0 = 48
      · rw [decide_eq_true h48]
        refine ⟨_, rfl, x, rfl, by omega, _, _, rfl, rfl, _, rfl, ?_, s1⟩
        rw [hd0, h48, xl]
        by_cases h : 1 < x.length
        · rw [decide_eq_true (show (x.length : Int) > 1 by omega), decide_eq_true ⟨rfl, h⟩]
        · rw [decide_eq_false (show ¬ (x.length : Int) > 1 by omega), decide_eq_false fun z => h z.2]
      · rw [decide_eq_false h48]
        refine ⟨?_, s1⟩
        rw [hd0, decide_eq_false fun z => h48 (by have := z.1; injection this)]
    · rintro b H2 ⟨rfl, s2⟩
      by_cases hz : x.cps.toList.head? = some 48 ∧ 1 < x.cps.toList.length
      · rw [decide_eq_true hz]
        refine kN H2 ?_ s2
        unfold numIn
        rw [if_neg ne1, if_pos hz]
      · rw [decide_eq_false hz]
        have nv : numIn x = some (valN x.cps.toList) := by
          unfold numIn
          rw [if_neg ne1, if_neg hz]
        refine ⟨_, rfl, x, rfl, ?_⟩
        refine for_it walk_str (fun i σ H' => ∃ o1 : Option V, σ = [some (.str x), some (.int (valN (x.cps.toList.take i))), o1] ∧ Same H H') ⟨none, rfl, s2⟩ (fun _ _ _ _ _ => trivial) ?_ ?_
        · rintro i y σ H3 H4 hi ⟨o1, rfl, sm⟩ ⟨rfl, c, hc, rfl⟩
          have hc' : x.cps.toList[i]? = some c := by rw [Array.getElem?_toList]; exact hc
          have cd : c ∈ DIG.cps.toList := by
            have := List.all_eq_true.mp dig c (List.mem_of_getElem? hc')
            exact of_decide_eq_true this
          refine ⟨_, rfl, _, _, rfl, rfl, .inl ⟨by decide, by decide⟩, _, rfl, ⟨#[c]⟩, (c : Int) - 48, rfl, dig_int c cd, by show 1 ≤ 640; decide, _, _, rfl, rfl, some (.str ⟨#[c]⟩), ?_, sm⟩
          have tk : x.cps.toList.take (i + 1) = x.cps.toList.take i ++ [c] := by rw [List.take_add_one, hc']; rfl
          have e : valN (x.cps.toList.take (i + 1)) = 10 * valN (x.cps.toList.take i) + ((c : Int) - 48) := by
            rw [tk]
            unfold valN
            rw [List.foldl_append]
            rfl
          rw [e]
          rfl
        · rintro σ H3 ⟨o1, rfl, sm⟩
          refine ⟨_, rfl, ?_⟩
          rw [List.take_of_length_le (by rw [xl, hs]; omega)]
          exact kS _ H3 nv sm
end
end K15


set_option Elab.async false
set_option linter.all false
set_option maxRecDepth 100000
set_option maxHeartbeats 1000000
namespace K15
open PySem PySem.Spec PyProof.Rows L2 Mine TL StX SkE
/-! Sizes and texts, by the program and by the law. -/
def spSize (K : PySem.W.Frag) : Sp := fun vs H Q _ => ∃ (p : Addr) (us : List V) (ss : List Stp), vs = [.ref p] ∧ SqT K H p us ∧ Paired (StAt K H) us ss ∧ RcW ss ∧ ∀ H', Same H H' → Q (.int (widthS ss)) H'
def spRcText (K : PySem.W.Frag) : Sp := fun vs H Q _ => ∃ (p : Addr) (us : List V) (ss : List Stp), vs = [.ref p] ∧ SqT K H p us ∧ Paired (StAt K H) us ss ∧ RcW ss ∧ ∀ H', Same H H' → Q (.str (rcT ss)) H'
def spNamed (K : PySem.W.Frag) : Sp := fun vs H Q _ => ∃ (v : V) (s : Stp), vs = [v] ∧ StAt K H v s ∧ ∀ (b : Addr) (H' : Hp), Same H H' → SqT K H' b (s.nums.map natV) → Q (.ref b) H'
def spStText (K : PySem.W.Frag) : Sp := fun vs H Q _ => ∃ (v : V) (s : Stp) (i : Nat), vs = [v] ∧ StAt K H v s ∧ StW i s ∧ i ≤ 300 ∧ ∀ H', Same H H' → Q (.str (stT s)) H'
abbrev sNamed : Stmt := top 13
abbrev sStText : Stmt := top 14
abbrev sSize : Stmt := top 10
abbrev sRcText : Stmt := top 11
abbrev sWidth : Stmt := top 33
abbrev sPage : Stmt := top 34
section
variable {P : Program} {w : World} {K : PySem.W.Frag} {mg : Str → Option Value} {base : Heap}
abbrev nNamed : List Str := ["step"]
theorem scNamed : FnScope nNamed ["step"] (defScope sNamed) := ⟨rfl, rfl, rfl, by decide +kernel, rfl, by decide +kernel, by decide +kernel⟩
theorem ok_Named  {f : Addr} {fd : FuncData} (F : Fun K "named_in" "named_in" sNamed f fd) (B : Bi mg) : FnOk P w K mg base CX0 (1) f fd ["step"] (spNamed K) := by
  refine F.ok scNamed (fun vs H Q E h => ?_) (fun cdv A outer s H vs Q E hr h => ?_)
  · obtain ⟨v, s, rfl, _⟩ := h
    rfl
  · obtain ⟨v, s, rfl, hs, k⟩ := h
    have line : sizeLine = 16777216 := sizeLine_eq
    refine ⟨_, (pss_one (ps_ret (pe_ifExp (pt_cmpR op_eq (pe_callB call_len_seq (by rfl) B.len PySem.boot_len (pa_cons (pv 0) pa_nil)) pe_int (nomark _)) (pe_ix ix_tup (pv 0) pe_int (fun _ _ => rfl)) (pe_tup pa_nil)))), ?_⟩
    cases s with
    | shown i =>
      obtain ⟨a, rfl, h1⟩ := hs
      refine ⟨_, rfl, a, _, rfl, .inr h1, rfl, _, rfl, ite2 (fun z => absurd z (by show ¬ decide (V.int 2 = V.int 3) = true; decide)) (fun _ => ⟨Nat.zero_le _, fun q hq => k q _ (same_new same_rfl hq) (SqT.of upd_same)⟩)⟩
    | word x =>
      obtain ⟨a, rfl, h1⟩ := hs
      refine ⟨_, rfl, a, _, rfl, .inr h1, rfl, _, rfl, ite2 (fun z => absurd z (by show ¬ decide (V.int 2 = V.int 3) = true; decide)) (fun _ => ⟨Nat.zero_le _, fun q hq => k q _ (same_new same_rfl hq) (SqT.of upd_same)⟩)⟩
    | make c ns =>
      obtain ⟨a, b, rfl, h1, h2⟩ := hs
      exact ⟨_, rfl, a, _, rfl, .inr h1, rfl, _, rfl, ite2 (fun _ => ⟨_, rfl, a, _, _, _, rfl, rfl, h1, ix2, k b H same_rfl h2⟩) (fun z => absurd (by show decide (V.int 3 = V.int 3) = true; decide) z)⟩
    | opn c ns =>
      obtain ⟨a, b, rfl, h1, h2⟩ := hs
      exact ⟨_, rfl, a, _, rfl, .inr h1, rfl, _, rfl, ite2 (fun _ => ⟨_, rfl, a, _, _, _, rfl, rfl, h1, ix2, k b H same_rfl h2⟩) (fun z => absurd (by show decide (V.int 3 = V.int 3) = true; decide) z)⟩
abbrev nSize : List Str := ["recipe", "sizes", "step", "number"]
theorem scSize : FnScope nSize ["recipe"] (defScope sSize) := ⟨rfl, rfl, rfl, by decide +kernel, rfl, by decide +kernel, by decide +kernel⟩
theorem ok_Size  {f : Addr} {fd : FuncData} (F : Fun K "written_size" "written_size" sSize f fd) (B : Bi mg) (u_named : Use P w K mg base 1 "named_in" ["step"] (spNamed K)) : FnOk P w K mg base CX0 (2) f fd ["recipe"] (spSize K) := by
  refine F.ok scSize (fun vs H Q E h => ?_) (fun cdv A outer s H vs Q E hr h => ?_)
  · obtain ⟨p, us, ss, rfl, _⟩ := h
    rfl
  · obtain ⟨p, us, ss, rfl, hp, hs, rw_, k⟩ := h
    have line : sizeLine = 16777216 := sizeLine_eq
    refine ⟨_, (pss_cons (ps_set (i := 1) scSize.nd rfl (.inr rfl) (pe_lst pa_nil))
      (pss_cons (ps_for PassesOwn.never rfl (pi_tup (pv 0)) (pg_name (i := 2) scSize.nd rfl (Or.inl rfl))
        (pss_one (ps_expr (pe_bm PySem.F.plainAttrs_list PySem.F.slot_list_append PySem.F.type_list_append mt_append (pv 1) (pa_cons (pe_op op_add pe_int (pe_callB (cr_sum rfl) (by rfl) B.sum (by decide +kernel) (pa_cons (pe_lc (own := [("number", 3)]) (g := (gName 3)) (tt := tYes) rfl scSize.nd (pi_tup (pe_use u_named (hr.mono (by omega)) rfl (pa_cons (pv 2) pa_nil))) (blkOk_by (own := [("number", 3)]) (N := nSize) (sc := defScope sSize) (by decide +kernel)) (fun _ _ _ _ _ => (pg_name (i := 3) scSize.nd rfl (Or.inl rfl))) (fun _ _ _ _ _ => pts_nil) (fun _ _ _ _ _ => (pe_ix (show IxR _ (rIxL K) from ix_list) (pv 1) (pv 3) (fun _ _ => rfl)))) pa_nil))) pa_nil)))))
      (pss_one (ps_ret (pe_ix ix_list (pv 1) (pe_un un_neg pe_int) (fun _ _ => rfl)))))), ?_⟩
    have sl := hs.length
    refine ⟨Nat.zero_le _, fun fl hfl => ?_⟩
    first | generalize hGfl : upd _ fl _ = H0 | (show Ends.nx _ _ (upd _ fl _); generalize hGfl : upd _ fl _ = H0)
    have s0 := same_of_upd hfl hGfl
    have e0 := at_of_upd hGfl
    refine ⟨_, rfl, p, rfl, ⟨_, kt_same s0 _ _ hp⟩, ?_⟩
    refine for_tup (K := K) (a := p) (xs := us) (fun i σ H' => ∃ o2 : Option V, σ = [some (.ref p), some (.ref fl), o2, none] ∧ H' fl = some (.lst ((widthsS (ss.take i)).map V.int)) ∧ Same H H') ⟨none, rfl, e0, s0⟩ (fun i σ H' _ ⟨_, _, _, z⟩ => kt_same z _ _ hp) ?_ ?_
    · rintro i y σ H1 hi ⟨o2, rfl, e1, s1⟩
      obtain ⟨s, hss, hst⟩ := paired_at hs hi
      have il : i < ss.length := (List.getElem?_eq_some_iff.mp hss).1
      have tl : (ss.take i).length = i := by rw [List.length_take]; omega
      have wl := widths_len (ss.take i)
      rw [tl] at wl
      have sw := rw_.1 i s hss
      have nlt : s.nums.length ≤ 3 ∧ ∀ m ∈ s.nums, m < i := by
        cases s with
        | shown k => exact ⟨Nat.zero_le _, fun _ z => (List.not_mem_nil z).elim⟩
        | word x => exact ⟨Nat.zero_le _, fun _ z => (List.not_mem_nil z).elim⟩
        | make c ns => exact ⟨sw.2.2.2.1, sw.2.2.2.2⟩
        | opn c ns => exact ⟨sw.2.2.2.1, sw.2.2.2.2⟩
      refine ⟨_, rfl, .inl ⟨rfl, _, SqL.of e1⟩, _, rfl, y, s, rfl, StAt.kt (kt_same s1) hst, fun b H2 s2 hb => ?_⟩
      refine ⟨b, rfl, ⟨_, hb⟩, fun D hDn => ?_⟩
      have e2 := s2 _ _ e1
      refine lc_tup (K := K) (a := b) (xs := s.nums.map natV) (fun j H' => H' D = some (.lst (((s.nums.take j).map fun n => (widthsS (ss.take i)).getD n 0).map V.int)) ∧ Same H2 H') ⟨upd_same, same_new same_rfl hDn⟩ (fun j H' _ z => kt_same z.2 _ _ hb) ?_ ?_
      · rintro j z H3 hj ⟨e3, s3⟩
        rw [List.getElem?_map] at hj
        obtain ⟨n, hn, rfl⟩ := Option.map_eq_some_iff.mp hj
        have ni := nlt.2 n (List.mem_of_getElem? hn)
        have jl : j < s.nums.length := (List.getElem?_eq_some_iff.mp hn).1
        have hg : (widthsS (ss.take i))[n]? = some ((widthsS (ss.take i))[n]'(by omega)) := List.getElem?_eq_getElem (by omega)
        refine ⟨rfl, yes_if ?_⟩
        refine ⟨_, rfl, _, rfl, fl, _, _, _, rfl, rfl, SqL.of (s3 _ _ e2), atI_nat (by rw [List.getElem?_map, hg]; rfl), _, e3, by rw [List.length_map, List.length_map, List.length_take]; omega, ?_, same_off s3 hDn⟩
        rw [upd_same, take_map_snoc hn, List.map_append, List.getD_eq_getElem?_getD, hg]
        rfl
      · rintro H3 ⟨e3, s3⟩
        rw [List.length_map, List.take_of_length_le (Nat.le_refl _)] at e3
        refine ⟨D, _, rfl, SqL.of e3, _, _, rfl, rfl, fl, _, _, rfl, rfl, s3 _ _ e2, by rw [List.length_map, wl]; have := rw_.2.2; omega, _, rfl, ?_, same_off (same_tr s1 (same_tr s2 s3)) hfl⟩
        rw [upd_same, List.take_add_one, hss, Option.toList_some, widths_snoc, List.map_append]
        rfl
    · rintro σ H1 ⟨o2, rfl, e1, s1⟩
      rw [sl, List.take_of_length_le (Nat.le_refl _)] at e1
      obtain ⟨init, we⟩ := widths_last rw_.2.1
      refine ⟨_, rfl, _, rfl, fl, _, _, .int (widthS ss), rfl, rfl, SqL.of e1, ?_, k H1 s1⟩
      rw [we, List.map_append]
      exact atI_last _ _
abbrev nWidth : List Str := ["_law_steps_here", "_law_found", "_law_step", "_law_numbers", "_law_number"]
theorem scWidth : FnScope nWidth ["_law_steps_here"] (defScope sWidth) := ⟨rfl, rfl, rfl, by decide +kernel, rfl, by decide +kernel, by decide +kernel⟩
theorem ok_Width  {f : Addr} {fd : FuncData} (F : Fun K "_law_width" "_law_width" sWidth f fd) (B : Bi mg) : FnOk P w K mg base CX0 (1) f fd ["_law_steps_here"] (spSize K) := by
  refine F.ok scWidth (fun vs H Q E h => ?_) (fun cdv A outer s H vs Q E hr h => ?_)
  · obtain ⟨p, us, ss, rfl, _⟩ := h
    rfl
  · obtain ⟨p, us, ss, rfl, hp, hs, rw_, k⟩ := h
    have line : sizeLine = 16777216 := sizeLine_eq
    refine ⟨_, (pss_cons (ps_set (i := 1) scWidth.nd rfl (.inr rfl) (pe_lst pa_nil))
      (pss_cons (ps_for PassesOwn.never rfl (pi_tup (pv 0)) (pg_name (i := 2) scWidth.nd rfl (Or.inl rfl))
        (pss_cons (ps_set (i := 3) scWidth.nd rfl (.inl rfl) (pe_cut (pe_ifExp (pt_cmpR op_in_seq (pe_ix ix_tup (pv 2) pe_int (fun _ _ => rfl)) (pe_tup (pa_cons pe_str (pa_cons pe_str pa_nil))) (by with_unfolding_all rfl)) (pe_ix ix_tup (pv 2) pe_int (fun _ _ => rfl)) (pe_tup pa_nil))))
      (pss_one (ps_expr (pe_bm PySem.F.plainAttrs_list PySem.F.slot_list_append PySem.F.type_list_append mt_append (pv 1) (pa_cons (pe_op op_add pe_int (pe_callB (cr_sum rfl) (by rfl) B.sum (by decide +kernel) (pa_cons (pe_lc (own := [("_law_number", 4)]) (g := (gName 4)) (tt := tYes) rfl scWidth.nd (pi_tup (pv 3)) (blkOk_by (own := [("_law_number", 4)]) (N := nWidth) (sc := defScope sWidth) (by decide +kernel)) (fun _ _ _ _ _ => (pg_name (i := 4) scWidth.nd rfl (Or.inl rfl))) (fun _ _ _ _ _ => pts_nil) (fun _ _ _ _ _ => (pe_ix (show IxR _ (rIxL K) from ix_list) (pv 1) (pv 4) (fun _ _ => rfl)))) pa_nil))) pa_nil))))))
      (pss_one (ps_ret (pe_ix ix_list (pv 1) (pe_un un_neg pe_int) (fun _ _ => rfl)))))), ?_⟩
    have sl := hs.length
    refine ⟨Nat.zero_le _, fun fl hfl => ?_⟩
    first | generalize hGfl : upd _ fl _ = H0 | (show Ends.nx _ _ (upd _ fl _); generalize hGfl : upd _ fl _ = H0)
    have s0 := same_of_upd hfl hGfl
    have e0 := at_of_upd hGfl
    refine ⟨_, rfl, p, rfl, ⟨_, kt_same s0 _ _ hp⟩, ?_⟩
    refine for_tup (K := K) (a := p) (xs := us) (fun i σ H' => ∃ o2 o3 : Option V, σ = [some (.ref p), some (.ref fl), o2, o3, none] ∧ H' fl = some (.lst ((widthsS (ss.take i)).map V.int)) ∧ Same H H') ⟨none, none, rfl, e0, s0⟩ (fun i σ H' _ ⟨_, _, _, _, z⟩ => kt_same z _ _ hp) ?_ ?_
    · rintro i y σ H1 hi ⟨o2, o3, rfl, e1, s1⟩
      obtain ⟨s, hss, hst⟩ := paired_at hs hi
      have il : i < ss.length := (List.getElem?_eq_some_iff.mp hss).1
      have tl : (ss.take i).length = i := by rw [List.length_take]; omega
      have wl := widths_len (ss.take i)
      rw [tl] at wl
      have sw := rw_.1 i s hss
      have nlt : s.nums.length ≤ 3 ∧ ∀ m ∈ s.nums, m < i := by
        cases s with
        | shown k => exact ⟨Nat.zero_le _, fun _ z => (List.not_mem_nil z).elim⟩
        | word x => exact ⟨Nat.zero_le _, fun _ z => (List.not_mem_nil z).elim⟩
        | make c ns => exact ⟨sw.2.2.2.1, sw.2.2.2.2⟩
        | opn c ns => exact ⟨sw.2.2.2.1, sw.2.2.2.2⟩
      have hst1 := StAt.kt (kt_same s1) hst
      refine ⟨fun v' H' => ∃ b, v' = .ref b ∧ Same H1 H' ∧ SqT K H' b (s.nums.map natV), ?_, ?_⟩
      · clear sw nlt
        cases s with
        | shown k =>
          obtain ⟨a, rfl, h1⟩ := hst1
          refine ⟨_, rfl, a, _, _, _, rfl, rfl, h1, ix0, (by show 2 ≤ sizeLine; omega), fun t ht => ?_⟩
          first | generalize hGt : upd _ t _ = H2 | (show Ends.nx _ _ (upd _ t _); generalize hGt : upd _ t _ = H2)
          have s2 := same_of_upd ht hGt
          have e2 := at_of_upd hGt
          refine ⟨t, _, rfl, .inr (SqT.of e2), rfl, rfl, _, rfl, ite2 (fun z => absurd z (by decide +kernel)) (fun _ => ⟨Nat.zero_le _, fun q hq => ⟨q, rfl, same_new s2 hq, SqT.of upd_same⟩⟩)⟩
        | word x =>
          obtain ⟨a, rfl, h1⟩ := hst1
          refine ⟨_, rfl, a, _, _, _, rfl, rfl, h1, ix0, (by show 2 ≤ sizeLine; omega), fun t ht => ?_⟩
          first | generalize hGt : upd _ t _ = H2 | (show Ends.nx _ _ (upd _ t _); generalize hGt : upd _ t _ = H2)
          have s2 := same_of_upd ht hGt
          have e2 := at_of_upd hGt
          refine ⟨t, _, rfl, .inr (SqT.of e2), rfl, rfl, _, rfl, ite2 (fun z => absurd z (by decide +kernel)) (fun _ => ⟨Nat.zero_le _, fun q hq => ⟨q, rfl, same_new s2 hq, SqT.of upd_same⟩⟩)⟩
        | make c ns =>
          obtain ⟨a, b, rfl, h1, h2⟩ := hst1
          refine ⟨_, rfl, a, _, _, _, rfl, rfl, h1, ix0, (by show 2 ≤ sizeLine; omega), fun t ht => ?_⟩
          first | generalize hGt : upd _ t _ = H2 | (show Ends.nx _ _ (upd _ t _); generalize hGt : upd _ t _ = H2)
          have s2 := same_of_upd ht hGt
          have e2 := at_of_upd hGt
          exact ⟨t, _, rfl, .inr (SqT.of e2), rfl, rfl, _, rfl, ite2 (fun _ => ⟨_, rfl, a, _, _, _, rfl, rfl, kt_same s2 _ _ h1, ix2, b, rfl, s2, kt_same s2 _ _ h2⟩) (fun z => absurd (by decide +kernel) z)⟩
        | opn c ns =>
          obtain ⟨a, b, rfl, h1, h2⟩ := hst1
          refine ⟨_, rfl, a, _, _, _, rfl, rfl, h1, ix0, (by show 2 ≤ sizeLine; omega), fun t ht => ?_⟩
          first | generalize hGt : upd _ t _ = H2 | (show Ends.nx _ _ (upd _ t _); generalize hGt : upd _ t _ = H2)
          have s2 := same_of_upd ht hGt
          have e2 := at_of_upd hGt
          exact ⟨t, _, rfl, .inr (SqT.of e2), rfl, rfl, _, rfl, ite2 (fun _ => ⟨_, rfl, a, _, _, _, rfl, rfl, kt_same s2 _ _ h1, ix2, b, rfl, s2, kt_same s2 _ _ h2⟩) (fun z => absurd (by decide +kernel) z)⟩
      · rintro v' H2 ⟨b, rfl, s2, hb⟩
        have e2 := s2 _ _ e1
        refine ⟨_, rfl, .inl ⟨rfl, _, SqL.of e2⟩, _, rfl, b, rfl, ⟨_, hb⟩, fun D hDn => ?_⟩
        refine lc_tup (K := K) (a := b) (xs := s.nums.map natV) (fun j H' => H' D = some (.lst (((s.nums.take j).map fun n => (widthsS (ss.take i)).getD n 0).map V.int)) ∧ Same H2 H') ⟨upd_same, same_new same_rfl hDn⟩ (fun j H' _ z => kt_same z.2 _ _ hb) ?_ ?_
        · rintro j z H3 hj ⟨e3, s3⟩
          rw [List.getElem?_map] at hj
          obtain ⟨n, hn, rfl⟩ := Option.map_eq_some_iff.mp hj
          have ni := nlt.2 n (List.mem_of_getElem? hn)
          have jl : j < s.nums.length := (List.getElem?_eq_some_iff.mp hn).1
          have hg : (widthsS (ss.take i))[n]? = some ((widthsS (ss.take i))[n]'(by omega)) := List.getElem?_eq_getElem (by omega)
          refine ⟨rfl, yes_if ?_⟩
          refine ⟨_, rfl, _, rfl, fl, _, _, _, rfl, rfl, SqL.of (s3 _ _ e2), atI_nat (by rw [List.getElem?_map, hg]; rfl), _, e3, by rw [List.length_map, List.length_map, List.length_take]; omega, ?_, same_off s3 hDn⟩
          rw [upd_same, take_map_snoc hn, List.map_append, List.getD_eq_getElem?_getD, hg]
          rfl
        · rintro H3 ⟨e3, s3⟩
          rw [List.length_map, List.take_of_length_le (Nat.le_refl _)] at e3
          refine ⟨D, _, rfl, SqL.of e3, _, _, rfl, rfl, fl, _, _, rfl, rfl, s3 _ _ e2, by rw [List.length_map, wl]; have := rw_.2.2; omega, _, _, rfl, ?_, same_off (same_tr s1 (same_tr s2 s3)) hfl⟩
          rw [upd_same, List.take_add_one, hss, Option.toList_some, widths_snoc, List.map_append]
          rfl
    · rintro σ H1 ⟨o2, o3, rfl, e1, s1⟩
      rw [sl, List.take_of_length_le (Nat.le_refl _)] at e1
      obtain ⟨init, we⟩ := widths_last rw_.2.1
      refine ⟨_, rfl, _, rfl, fl, _, _, .int (widthS ss), rfl, rfl, SqL.of e1, ?_, k H1 s1⟩
      rw [we, List.map_append]
      exact atI_last _ _
abbrev nStText : List Str := ["step", "word"]
theorem scStText : FnScope nStText ["step"] (defScope sStText) := ⟨rfl, rfl, rfl, by decide +kernel, rfl, by decide +kernel, by decide +kernel⟩
theorem ok_StText  {f : Addr} {fd : FuncData} (F : Fun K "_step_text" "_step_text" sStText f fd) (B : Bi mg) (u_named : Use P w K mg base 1 "named_in" ["step"] (spNamed K)) : FnOk P w K mg base CX0 (2) f fd ["step"] (spStText K) := by
  refine F.ok scStText (fun vs H Q E h => ?_) (fun cdv A outer s H vs Q E hr h => ?_)
  · obtain ⟨v, s, i, rfl, _⟩ := h
    rfl
  · obtain ⟨v, s, i, rfl, hs, hw, i3, k⟩ := h
    have line : sizeLine = 16777216 := sizeLine_eq
    refine ⟨_, (pss_one (ps_ret (pe_m1 PySem.F.slot_str_join PySem.F.type_str_join mt_join pe_str (pe_lc (own := [("word", 1)]) (g := (gName 1)) (tt := tYes) rfl scStText.nd (pi_tup (pe_tup (pa_star (pe_slice sl_tupA (pv 0) po_none (po_some pe_int)) (pa_star (pe_use u_named (hr.mono (by omega)) rfl (pa_cons (pv 0) pa_nil)) pa_nil)))) (blkOk_by (own := [("word", 1)]) (N := nStText) (sc := defScope sStText) (by decide +kernel)) (fun _ _ _ _ _ => (pg_name (i := 1) scStText.nd rfl (Or.inl rfl))) (fun _ _ _ _ _ => pts_nil) (fun _ _ _ _ _ => (pe_callTy call_str_any (by rfl) B.str (by decide +kernel) (pa_cons (pv 1) pa_nil))))))), ?_⟩
    -- the two first words and what is named
    obtain ⟨wl, wx⟩ := stW_len hw i3
    have sum := (stT_len hw i3).2
    obtain ⟨a, x0, x1, r, rfl, ha, hv⟩ : ∃ (a : Addr) (x0 x1 : V) (r : List V), v = .ref a ∧ SqT K H a (x0 :: x1 :: r) ∧ ∀ (j : Nat) (y : V), ([x0, x1] ++ s.nums.map natV)[j]? = some y → ∃ z, (stW s)[j]? = some z ∧ ((∃ n : Nat, y = natV n ∧ n ≤ 300 ∧ z = nums n) ∨ y = .str z) := by
      have num : ∀ (ns : List Nat), (∀ m ∈ ns, m < i) → ∀ (j : Nat) y, (ns.map natV)[j]? = some y → ∃ z, (ns.map nums)[j]? = some z ∧ ((∃ n : Nat, y = natV n ∧ n ≤ 300 ∧ z = nums n) ∨ y = .str z) := fun ns h j y hy => by
        rw [List.getElem?_map] at hy
        obtain ⟨n, hn, rfl⟩ := Option.map_eq_some_iff.mp hy
        exact ⟨nums n, by rw [List.getElem?_map, hn]; rfl, .inl ⟨n, rfl, by have := h n (List.mem_of_getElem? hn); omega, rfl⟩⟩
      cases s with
      | shown k0 =>
        obtain ⟨a, rfl, h1⟩ := hs
        refine ⟨a, .str (lsS "shown"), natV k0, [], rfl, h1, fun j y hy => ?_⟩
        rcases j with _ | _ | j
        · cases hy
          exact ⟨_, rfl, .inr rfl⟩
        · cases hy
          exact ⟨_, rfl, .inl ⟨k0, rfl, hw, rfl⟩⟩
        · cases hy
      | word x =>
        obtain ⟨a, rfl, h1⟩ := hs
        refine ⟨a, .str (lsS "word"), .str x, [], rfl, h1, fun j y hy => ?_⟩
        rcases j with _ | _ | j
        · cases hy
          exact ⟨_, rfl, .inr rfl⟩
        · cases hy
          exact ⟨_, rfl, .inr rfl⟩
        · cases hy
      | make c ns =>
        obtain ⟨a, b, rfl, h1, h2⟩ := hs
        refine ⟨a, .str (lsS "make"), .str c, [.ref b], rfl, h1, fun j y hy => ?_⟩
        rcases j with _ | _ | j
        · cases hy
          exact ⟨_, rfl, .inr rfl⟩
        · cases hy
          exact ⟨_, rfl, .inr rfl⟩
        · exact num ns hw.2.2.2.2 j y hy
      | opn c ns =>
        obtain ⟨a, b, rfl, h1, h2⟩ := hs
        refine ⟨a, .str (lsS "open"), .str c, [.ref b], rfl, h1, fun j y hy => ?_⟩
        rcases j with _ | _ | j
        · cases hy
          exact ⟨_, rfl, .inr rfl⟩
        · cases hy
          exact ⟨_, rfl, .inr rfl⟩
        · exact num ns hw.2.2.2.2 j y hy
    have len2 : ([x0, x1] ++ s.nums.map natV).length = (stW s).length := by
      cases s <;> simp [stW, Stp.nums] <;> omega
    have cut2 : cutV (x0 :: x1 :: r) none (some 2) = [x0, x1] := by
      unfold cutV
      have e1 : HT.sIx (x0 :: x1 :: r).length 0 none = 0 := rfl
      have e2 : HT.sIx (x0 :: x1 :: r).length (x0 :: x1 :: r).length (some 2) = 2 := by simp [HT.sIx]
      rw [e1, e2]
      rfl
    -- step[:2] is the step itself, or a new tuple
    have two : ∀ (R : V → Hp → Prop), (∀ (p : Addr) (H1 : Hp), Same H H1 → SqT K H1 p [x0, x1] → R (.ref p) H1) → rSlA K (.ref a) none (some 2) H R := fun R h => by
      refine ⟨a, _, rfl, ha, fun z => ?_, fun z p hp => ?_⟩
      · have e2 : HT.sIx (x0 :: x1 :: r).length (x0 :: x1 :: r).length (some 2) = 2 := by simp [HT.sIx]
        rw [e2] at z
        have : r = [] := by
          have := z.2
          simp at this
          exact this
        subst this
        exact h a H same_rfl ha
      · rw [cut2]
        exact h p _ (same_new same_rfl hp) (SqT.of upd_same)
    refine ⟨⟨_, rfl⟩, _, rfl, _, rfl, two _ fun p H1 s1 hp1 => ?_⟩
    refine ⟨p, _, rfl, .inl hp1, _, rfl, .ref a, s, rfl, StAt.kt (kt_same s1) hs, fun b H2 s2 hb => ⟨b, _, rfl, .inl hb, ?_⟩⟩
    refine ⟨by rw [List.append_nil, len2]; omega, fun t ht => ?_⟩
    first | generalize hGt : upd _ t _ = H3 | (show Ends.nx _ _ (upd _ t _); generalize hGt : upd _ t _ = H3)
    have s3 := same_of_upd ht hGt
    have e3 := at_of_upd hGt
    rw [List.append_nil] at e3
    have s13 := same_tr s1 (same_tr s2 s3)
    refine ⟨t, rfl, ⟨_, SqT.of e3⟩, fun D hDn => ?_⟩
    refine lc_tup (K := K) (a := t) (xs := [x0, x1] ++ s.nums.map natV) (fun j H' => H' D = some (.lst (((stW s).take j).map V.str)) ∧ Same H3 H') ⟨upd_same, same_new same_rfl hDn⟩ (fun j H' _ z => kt_same z.2 _ _ (SqT.of e3)) ?_ ?_
    · rintro j y H4 hj ⟨e4, s4⟩
      obtain ⟨z, hz, hy⟩ := hv j y hj
      have jl : j < (stW s).length := (List.getElem?_eq_some_iff.mp hz).1
      have fin2 : ∃ acc, H4 D = some (.lst acc) ∧ acc.length < sizeLine ∧ (upd H4 D (.lst (acc ++ [V.str z]))) D = some (.lst (((stW s).take (j + 1)).map V.str)) ∧ Same H3 (upd H4 D (.lst (acc ++ [V.str z]))) := by
        refine ⟨_, e4, by rw [List.length_map, List.length_take]; omega, ?_, same_off s4 hDn⟩
        rw [upd_same, take_map_snoc hz]
      refine ⟨rfl, yes_if ?_⟩
      rcases hy with ⟨n, rfl, n3, rfl⟩ | rfl
      · exact ⟨_, rfl, .inl ⟨(n : Int), rfl, nums_log n n3, fin2⟩⟩
      · exact ⟨_, rfl, .inr ⟨z, rfl, fin2⟩⟩
    · rintro H4 ⟨e4, s4⟩
      rw [len2, List.take_of_length_le (Nat.le_refl _)] at e4
      refine ⟨_, D, stW s, rfl, rfl, .inl (SqL.of e4), ?_, k H4 (same_tr s13 s4)⟩
      have : (PySem.Str.ofString " ").length = spS.length := rfl
      rw [this]
      omega
abbrev nRcText : List Str := ["recipe", "step"]
theorem scRcText : FnScope nRcText ["recipe"] (defScope sRcText) := ⟨rfl, rfl, rfl, by decide +kernel, rfl, by decide +kernel, by decide +kernel⟩
theorem ok_RcText  {f : Addr} {fd : FuncData} (F : Fun K "recipe_text" "recipe_text" sRcText f fd) (B : Bi mg) (u_sttext : Use P w K mg base 2 "_step_text" ["step"] (spStText K)) : FnOk P w K mg base CX0 (3) f fd ["recipe"] (spRcText K) := by
  refine F.ok scRcText (fun vs H Q E h => ?_) (fun cdv A outer s H vs Q E hr h => ?_)
  · obtain ⟨p, us, ss, rfl, _⟩ := h
    rfl
  · obtain ⟨p, us, ss, rfl, hp, hs, rw_, k⟩ := h
    have line : sizeLine = 16777216 := sizeLine_eq
    refine ⟨_, (pss_one (ps_ret (pe_m1 PySem.F.slot_str_join PySem.F.type_str_join mt_join pe_str (pe_lc (own := [("step", 1)]) (g := (gName 1)) (tt := tYes) rfl scRcText.nd (pi_tup (pv 0)) (blkOk_by (own := [("step", 1)]) (N := nRcText) (sc := defScope sRcText) (by decide +kernel)) (fun _ _ _ _ _ => (pg_name (i := 1) scRcText.nd rfl (Or.inl rfl))) (fun _ _ _ _ _ => pts_nil) (fun _ _ _ _ _ => (pe_use u_sttext (hr.mono (by omega)) rfl (pa_cons (pv 1) pa_nil))))))), ?_⟩
    have sl := hs.length
    have tl := (rcT_len rw_).2
    refine ⟨⟨_, rfl⟩, _, rfl, p, rfl, ⟨_, hp⟩, fun D hDn => ?_⟩
    refine lc_tup (K := K) (a := p) (xs := us) (fun j H' => H' D = some (.lst (((ss.take j).map stT).map V.str)) ∧ Same H H') ⟨upd_same, same_new same_rfl hDn⟩ (fun j H' _ z => kt_same z.2 _ _ hp) ?_ ?_
    · rintro j y H1 hj ⟨e1, s1⟩
      obtain ⟨s, hss, hst⟩ := paired_at hs hj
      have jl : j < ss.length := (List.getElem?_eq_some_iff.mp hss).1
      have l2 := rw_.2.2
      refine ⟨rfl, yes_if ?_⟩
      refine ⟨_, rfl, y, s, j, rfl, StAt.kt (kt_same s1) hst, rw_.1 j s hss, by omega, fun H2 s2 => ⟨_, s2 _ _ e1, by rw [List.length_map, List.length_map, List.length_take]; omega, ?_, same_off (same_tr s1 s2) hDn⟩⟩
      rw [upd_same, take_map_snoc hss, List.map_append]
      rfl
    · rintro H1 ⟨e1, s1⟩
      rw [sl, List.take_of_length_le (Nat.le_refl _)] at e1
      refine ⟨_, D, ss.map stT, rfl, rfl, .inl (SqL.of e1), ?_, k H1 s1⟩
      have : (PySem.Str.ofString ";").length = scS.length := rfl
      rw [this]
      omega
abbrev nPage : List Str := ["_law_steps_here", "_law_lots", "_law_step", "_law_bits", "_law_number"]
theorem scPage : FnScope nPage ["_law_steps_here"] (defScope sPage) := ⟨rfl, rfl, rfl, by decide +kernel, rfl, by decide +kernel, by decide +kernel⟩
theorem ok_Page  {f : Addr} {fd : FuncData} (F : Fun K "_law_page" "_law_page" sPage f fd) (B : Bi mg) : FnOk P w K mg base CX0 (1) f fd ["_law_steps_here"] (spRcText K) := by
  refine F.ok scPage (fun vs H Q E h => ?_) (fun cdv A outer s H vs Q E hr h => ?_)
  · obtain ⟨p, us, ss, rfl, _⟩ := h
    rfl
  · obtain ⟨p, us, ss, rfl, hp, hs, rw_, k⟩ := h
    have line : sizeLine = 16777216 := sizeLine_eq
    refine ⟨_, (pss_cons (ps_set (i := 1) scPage.nd rfl (.inl rfl) (pe_lst pa_nil))
      (pss_cons (ps_for PassesOwn.never rfl (pi_tup (pv 0)) (pg_name (i := 2) scPage.nd rfl (Or.inl rfl))
        (pss_cons (ps_set (i := 3) scPage.nd rfl (.inl rfl) (pe_lst (pa_cons (pe_ix ix_tup (pv 2) pe_int (fun _ _ => rfl)) (pa_cons (pe_cut (pe_callTy call_str_any (by rfl) B.str (by decide +kernel) (pa_cons (pe_ix ix_tup (pv 2) pe_int (fun _ _ => rfl)) pa_nil))) pa_nil))))
      (pss_cons (ps_cut (ps_if (pt_cmpR op_gt (pe_callB call_len_seq (by rfl) B.len PySem.boot_len (pa_cons (pv 2) pa_nil)) pe_int (nomark _)) (pss_one (ps_set (i := 3) scPage.nd rfl (.inl rfl) (pe_op op_cat (pv 3) (pe_lc (own := [("_law_number", 4)]) (g := (gName 4)) (tt := tYes) rfl scPage.nd (pi_tup (pe_ix ix_tup (pv 2) pe_int (fun _ _ => rfl))) (blkOk_by (own := [("_law_number", 4)]) (N := nPage) (sc := defScope sPage) (by decide +kernel)) (fun _ _ _ _ _ => (pg_name (i := 4) scPage.nd rfl (Or.inl rfl))) (fun _ _ _ _ _ => pts_nil) (fun _ _ _ _ _ => (pe_callTy call_str_int (by rfl) B.str (by decide +kernel) (pa_cons (pv 4) pa_nil))))))) pss_nil))
      (pss_one (ps_expr (pe_bm PySem.F.plainAttrs_list PySem.F.slot_list_append PySem.F.type_list_append mt_append (pv 1) (pa_cons (pe_m1 PySem.F.slot_str_join PySem.F.type_str_join mt_join pe_str (pv 3)) pa_nil)))))))
      (pss_one (ps_ret (pe_m1 PySem.F.slot_str_join PySem.F.type_str_join mt_join pe_str (pv 1)))))), ?_⟩
    have sl := hs.length
    have tl := (rcT_len rw_).2
    have l2 := rw_.2.2
    refine ⟨Nat.zero_le _, fun fl hfl => ?_⟩
    first | generalize hGfl : upd _ fl _ = H0 | (show Ends.nx _ _ (upd _ fl _); generalize hGfl : upd _ fl _ = H0)
    have s0 := same_of_upd hfl hGfl
    have e0 := at_of_upd hGfl
    refine ⟨_, rfl, p, rfl, ⟨_, kt_same s0 _ _ hp⟩, ?_⟩
    refine for_tup (K := K) (a := p) (xs := us) (fun i σ H' => ∃ o2 o3 : Option V, σ = [some (.ref p), some (.ref fl), o2, o3, none] ∧ H' fl = some (.lst (((ss.take i).map stT).map V.str)) ∧ Same H H') ⟨none, none, rfl, e0, s0⟩ (fun i σ H' _ ⟨_, _, _, _, z⟩ => kt_same z _ _ hp) ?_ ?_
    · rintro i y σ H1 hi ⟨o2, o3, rfl, e1, s1⟩
      obtain ⟨s, hss, hst⟩ := paired_at hs hi
      have il : i < ss.length := (List.getElem?_eq_some_iff.mp hss).1
      have sw := rw_.1 i s hss
      have hst1 := StAt.kt (kt_same s1) hst
      have sum := (stT_len sw (by omega)).2
      obtain ⟨a, w0, x1, w1, r, ns, rfl, ha, hx1, hst2, hr⟩ : ∃ (a : Addr) (w0 : Str) (x1 : V) (w1 : Str) (r : List V) (ns : List Nat), y = .ref a ∧ SqT K H1 a (.str w0 :: x1 :: r) ∧ ((∃ n : Nat, x1 = natV n ∧ n ≤ 300 ∧ w1 = nums n) ∨ x1 = .str w1) ∧ stW s = w0 :: w1 :: ns.map nums ∧ ((r = [] ∧ ns = []) ∨ ∃ b : Addr, r = [.ref b] ∧ SqT K H1 b (ns.map natV) ∧ (∀ m ∈ ns, m ≤ 300) ∧ ns.length ≤ 3) := by
        have le : ∀ {ns : List Nat}, (∀ m ∈ ns, m < i) → ∀ m ∈ ns, m ≤ 300 := fun h m hm => by have := h m hm; omega
        cases s with
        | shown n =>
          obtain ⟨a, rfl, h1⟩ := hst1
          exact ⟨a, _, _, _, [], [], rfl, h1, .inl ⟨n, rfl, sw, rfl⟩, rfl, .inl ⟨rfl, rfl⟩⟩
        | word x =>
          obtain ⟨a, rfl, h1⟩ := hst1
          exact ⟨a, _, _, _, [], [], rfl, h1, .inr rfl, rfl, .inl ⟨rfl, rfl⟩⟩
        | make c ns =>
          obtain ⟨a, b, rfl, h1, h2⟩ := hst1
          exact ⟨a, _, _, _, _, ns, rfl, h1, .inr rfl, rfl, .inr ⟨b, rfl, h2, le sw.2.2.2.2, sw.2.2.2.1⟩⟩
        | opn c ns =>
          obtain ⟨a, b, rfl, h1, h2⟩ := hst1
          exact ⟨a, _, _, _, _, ns, rfl, h1, .inr rfl, rfl, .inr ⟨b, rfl, h2, le sw.2.2.2.2, sw.2.2.2.1⟩⟩
      refine ⟨_, rfl, a, _, _, _, rfl, rfl, ha, ix0, fun v' H' => v' = .str w1 ∧ H' = H1, ?_, ?_⟩
      · refine ⟨_, rfl, a, _, _, _, rfl, rfl, ha, ix1, ?_⟩
        rcases hx1 with ⟨n, rfl, n3, rfl⟩ | rfl
        · exact .inl ⟨(n : Int), rfl, nums_log n n3, rfl, rfl⟩
        · exact .inr ⟨_, rfl, rfl, rfl⟩
      · rintro v' H' ⟨rfl, rfl⟩
        refine ⟨(by show 2 ≤ sizeLine; omega), fun q hq => ?_⟩
        first | generalize hGq : upd _ q _ = H2 | (show Ends.nx _ _ (upd _ q _); generalize hGq : upd _ q _ = H2)
        have s2 := same_of_upd hq hGq
        have e2 := at_of_upd hGq
        refine ⟨fun σ' H' => ∃ q', σ' = [some (.ref p), some (.ref fl), some (.ref a), some (.ref q'), none] ∧ H' q' = some (.lst ((stW s).map V.str)) ∧ Same H2 H', ?_, ?_⟩
        · refine ⟨_, rfl, a, _, rfl, .inr (kt_same s2 _ _ ha), _, _, rfl, rfl, _, rfl, ?_⟩
          rcases hr with ⟨rfl, rfl⟩ | ⟨b, rfl, hb, ns3, nsl⟩
          · refine ite2 (fun z => absurd z (by show ¬ decide ((2 : Int) > 2) = true; decide)) (fun _ => ⟨q, rfl, ?_, same_rfl⟩)
            rw [e2, hst2]
            rfl
          · refine ite2 (fun _ => ?_) (fun z => absurd (by show decide ((3 : Int) > 2) = true; decide) z)
            refine ⟨_, rfl, _, rfl, a, _, _, _, rfl, rfl, kt_same s2 _ _ ha, ix2, b, rfl, ⟨_, kt_same s2 _ _ hb⟩, fun D hDn => ?_⟩
            refine lc_tup (K := K) (a := b) (xs := ns.map natV) (fun j H' => H' D = some (.lst (((ns.take j).map nums).map V.str)) ∧ Same H2 H') ⟨upd_same, same_new same_rfl hDn⟩ (fun j H' _ z => kt_same (same_tr s2 z.2) _ _ hb) ?_ ?_
            · rintro j z H3 hj ⟨e3, s3⟩
              rw [List.getElem?_map] at hj
              obtain ⟨n, hn, rfl⟩ := Option.map_eq_some_iff.mp hj
              have jl : j < ns.length := (List.getElem?_eq_some_iff.mp hn).1
              refine ⟨rfl, yes_if ?_⟩
              refine ⟨_, rfl, (n : Int), rfl, nums_log n (ns3 n (List.mem_of_getElem? hn)), _, e3, by rw [List.length_map, List.length_map, List.length_take]; omega, ?_, same_off s3 hDn⟩
              rw [upd_same, take_map_snoc hn, List.map_append]
              rfl
            · rintro H3 ⟨e3, s3⟩
              rw [List.length_map, List.take_of_length_le (Nat.le_refl _)] at e3
              refine ⟨q, D, _, _, rfl, rfl, s3 _ _ e2, e3, by simp only [List.length_cons, List.length_nil, List.length_map]; omega, fun q2 hq2 => ?_⟩
              refine ⟨q2, rfl, ?_, same_new s3 hq2⟩
              rw [upd_same, hst2]
              rfl
        · rintro σ' H3 ⟨q', rfl, e3, s3⟩
          have s23 := same_tr s2 s3
          refine ⟨_, rfl, .inl ⟨rfl, _, SqL.of (s23 _ _ e1)⟩, ⟨_, rfl⟩, _, rfl, _, q', stW s, rfl, rfl, .inl (SqL.of e3), ?_, fl, _, _, rfl, rfl, s23 _ _ e1, by rw [List.length_map, List.length_map, List.length_take]; omega, _, _, rfl, ?_, same_off (same_tr s1 s23) hfl⟩
          · have : (PySem.Str.ofString " ").length = spS.length := rfl
            rw [this]
            omega
          · rw [upd_same, take_map_snoc hss, List.map_append]
            rfl
    · rintro σ H1 ⟨o2, o3, rfl, e1, s1⟩
      rw [sl, List.take_of_length_le (Nat.le_refl _)] at e1
      refine ⟨⟨_, rfl⟩, _, rfl, _, fl, ss.map stT, rfl, rfl, .inl (SqL.of e1), ?_, k H1 s1⟩
      have : (PySem.Str.ofString ";").length = scS.length := rfl
      rw [this]
      omega
end
end K15


set_option Elab.async false
set_option linter.all false
set_option maxRecDepth 100000
set_option maxHeartbeats 1000000
namespace K15
open PySem PySem.Spec PyProof.Rows L2 Mine TL StX SkE
/-! A recipe read from its text. -/
abbrev sStepIn : Stmt := top 15
abbrev sRead : Stmt := top 12
def spStepIn (K : PySem.W.Frag) : Sp := fun vs H Q _ => ∃ (p : Addr) (ws : List Str) (at_ : Nat), vs = [.ref p, natV at_] ∧ SqL K H p (ws.map V.str) ∧ ws.length ≤ 100000 ∧ (∀ x ∈ ws, x.length ≤ 100000) ∧ (∀ v s H', stepIn at_ ws = some s → Same H H' → StAt K H' v s → Q v H') ∧ (∀ H', stepIn at_ ws = none → Same H H' → Q .non H')
def spRead (K : PySem.W.Frag) : Sp := fun vs H Q _ => ∃ ss : List Stp, vs = [.str (rcT ss)] ∧ RcW ss ∧ ∀ (p : Addr) (us : List V) (H' : Hp), Same H H' → SqT K H' p us → Paired (StAt K H') us ss → Q (.ref p) H'
section
variable {P : Program} {w : World} {K : PySem.W.Frag} {mg : Str → Option Value} {base : Heap}
abbrev nStepIn : List Str := ["words", "at", "index", "numbers", "word", "number"]
theorem scStepIn : FnScope nStepIn ["words", "at"] (defScope sStepIn) := ⟨rfl, rfl, rfl, by decide +kernel, rfl, by decide +kernel, by decide +kernel⟩
theorem ok_StepIn  {f : Addr} {fd : FuncData} (F : Fun K "_step_in" "_step_in" sStepIn f fd) (B : Bi mg) (u_word : Use P w K mg base 1 "is_word" ["thing"] (spIs K isW)) (u_numin : Use P w K mg base 1 "number_in" ["word"] spNumIn) (g_MOST_NUMBERS : ∃ u, mg "MOST_NUMBERS" = some u ∧ RelV (.int 3) u) : FnOk P w K mg base CX0 (2) f fd ["words", "at"] (spStepIn K) := by
  refine F.ok scStepIn (fun vs H Q E h => ?_) (fun cdv A outer s H vs Q E hr h => ?_)
  · obtain ⟨p, ws, at_, rfl, _⟩ := h
    rfl
  · obtain ⟨p, ws, at_, rfl, hp, wl, xl, kS, kN⟩ := h
    have line : sizeLine = 16777216 := sizeLine_eq
    refine ⟨_, (pss_cons (ps_if (pt_cmpR op_eq (pe_callB call_len_seq (by rfl) B.len PySem.boot_len (pa_cons (pv 0) pa_nil)) pe_int (nomark _)) (pss_cons (ps_if (pt_cmpR op_eq (pe_ix ix_list (pv 0) pe_int (fun _ _ => rfl)) pe_str (nomark _)) (pss_one (ps_ret (pe_ifExp (pt_val (pe_use u_word (hr.mono (by omega)) rfl (pa_cons (pe_ix ix_list (pv 0) pe_int (fun _ _ => rfl)) pa_nil))) (pe_tup (pa_cons pe_str (pa_cons (pe_ix ix_list (pv 0) pe_int (fun _ _ => rfl)) pa_nil))) pe_non))) pss_nil)
      (pss_cons (ps_set (i := 2) scStepIn.nd rfl (.inl rfl) (pe_use u_numin (hr.mono (by omega)) rfl (pa_cons (pe_ix ix_list (pv 0) pe_int (fun _ _ => rfl)) pa_nil)))
      (pss_one (ps_ret (pe_ifExp (PW.pt (pw_and (pt_cmpR op_eq (pe_ix ix_list (pv 0) pe_int (fun _ _ => rfl)) pe_str (nomark _)) (pw_and1 (pt_cmpR op_notN (pv 2) pe_non (nomark _))))) (pe_tup (pa_cons pe_str (pa_cons (pv 2) pa_nil))) pe_non))))) pss_nil)
      (pss_cons (ps_if (pt_cut (PW.pt (pw_or (pt_not (pt_chain op_le op_le pe_int (pe_callB call_len_seq (by rfl) B.len PySem.boot_len (pa_cons (pv 0) pa_nil)) (pe_op op_add pe_int (C8.pe_gc (v := .int 3) (by rfl) g_MOST_NUMBERS)))) (pw_or (pt_cmpR op_notIn_seq (pe_ix ix_list (pv 0) pe_int (fun _ _ => rfl)) (pe_tup (pa_cons pe_str (pa_cons pe_str pa_nil))) (by with_unfolding_all rfl)) (pw_or1 (pt_not (pt_val (pe_use u_word (hr.mono (by omega)) rfl (pa_cons (pe_ix ix_list (pv 0) pe_int (fun _ _ => rfl)) pa_nil))))))))) (pss_one (ps_ret pe_non)) pss_nil)
      (pss_cons (ps_setLc (i := 3) (own := [("word", 4)]) (g := (gName 4)) (tt := tYes) rfl scStepIn.nd rfl rfl (sw_true rfl rfl rfl (by decide +kernel)) (pi_list (pe_slice sl_list (pv 0) (po_some pe_int) po_none)) (blkOk_by (own := [("word", 4)]) (N := nStepIn) (sc := defScope sStepIn) (by decide +kernel)) (fun _ _ _ _ _ => (pg_name (i := 4) scStepIn.nd rfl (Or.inl rfl))) (fun _ _ _ _ _ => pts_nil) (fun _ _ _ _ _ => (pe_use u_numin (hr.mono (by omega)) rfl (pa_cons (pv 4) pa_nil))))
      (pss_cons (ps_if (pt_not (pt_val (pe_callB (cr_all rfl) (by rfl) B.all (by decide +kernel) (pa_cons (pe_lc (own := [("number", 5)]) (g := (gName 5)) (tt := tYes) rfl scStepIn.nd (pi_list (pv 3)) (blkOk_by (own := [("number", 5)]) (N := nStepIn) (sc := defScope sStepIn) (by decide +kernel)) (fun _ _ _ _ _ => (pg_name (i := 5) scStepIn.nd rfl (Or.inl rfl))) (fun _ _ _ _ _ => pts_nil) (fun _ _ _ _ _ => (pe_and (pe_cmpR op_notN (pv 5) pe_non (nomark _)) (pe_one (pe_cmpR op_lt (pv 5) (pv 1) (nomark _)))))) pa_nil)))) (pss_one (ps_ret pe_non)) pss_nil)
      (pss_one (ps_ret (pe_tup (pa_cons (pe_ix ix_list (pv 0) pe_int (fun _ _ => rfl)) (pa_cons (pe_ix ix_list (pv 0) pe_int (fun _ _ => rfl)) (pa_cons (pe_callTy call_tuple_of (by rfl) B.tuple (by decide +kernel) (pa_cons (pv 3) pa_nil)) pa_nil)))))))))), ?_⟩
    refine ⟨_, rfl, p, _, rfl, .inl hp, rfl, _, rfl, ite2 (fun hb => ?_) (fun hb => ?_)⟩
    · have l2 : ws.length = 2 := by
        have := of_decide_eq_true hb
        rw [List.length_map] at this
        injection this
        omega
      obtain ⟨w0, w1, rfl⟩ := two_list l2
      have x1 : w1.length ≤ 100000 := xl w1 (by simp)
      have w1l : w1.length ≤ sizeLine := by omega
      refine ⟨_, rfl, p, _, _, _, rfl, rfl, hp, ix0, rfl, _, rfl, ite2 (fun hw => ?_) (fun hw => ?_)⟩
      · have e0 : w0 = lsS "word" := by
          have := of_decide_eq_true hw
          injection this
        have se : stepIn at_ [w0, w1] = if isW w1 = true then some (.word w1) else none := by rw [stepIn_two, if_pos e0]
        refine ⟨_, rfl, p, _, _, _, rfl, rfl, hp, ix1, _, rfl, .inl ⟨w1, rfl, w1l, fun H1 s1 => ?_⟩⟩
        refine ⟨_, rfl, ?_⟩
        cases hi : isW w1 with
        | true =>
          rw [hi] at se
          refine ⟨_, rfl, p, _, _, _, rfl, rfl, sqL_same s1 hp, ix1, (by show 2 ≤ sizeLine; omega), fun q hq => ?_⟩
          exact kS _ (.word w1) _ se (same_new s1 hq) ⟨q, rfl, SqT.of upd_same⟩
        | false =>
          rw [hi] at se
          exact kN H1 se s1
      · have e0 : ¬ w0 = lsS "word" := fun z => hw (by rw [z]; exact decide_eq_true rfl)
        have se : stepIn at_ [w0, w1] = if w0 = lsS "shown" then (numIn w1).map (fun n => .shown n.toNat) else none := by rw [stepIn_two, if_neg e0]
        refine ⟨_, rfl, p, _, _, _, rfl, rfl, hp, ix1, w1, rfl, x1, fun n H1 hn s1 => ?_, fun H1 hn s1 => ?_⟩
        · refine ⟨_, rfl, p, _, _, _, rfl, rfl, sqL_same s1 hp, ix0, rfl, _, rfl, ite2 (fun hs => ?_) (fun hs => ?_)⟩
          · have e1 : w0 = lsS "shown" := by
              have := of_decide_eq_true hs
              injection this
            rw [if_pos e1, hn] at se
            refine ⟨_, rfl, rfl, _, rfl, ?_⟩
            refine ⟨_, rfl, (by show 2 ≤ sizeLine; omega), fun q hq => ?_⟩
            exact kS _ (.shown n.toNat) _ se (same_new s1 hq) ⟨q, rfl, by rw [natV_of (numIn_nn hn)]; exact SqT.of upd_same⟩
          · have e1 : ¬ w0 = lsS "shown" := fun z => hs (by rw [z]; exact decide_eq_true rfl)
            rw [if_neg e1] at se
            exact kN H1 se s1
        · have sn : stepIn at_ [w0, w1] = none := by
            rw [se, hn]
            split <;> rfl
          refine ⟨_, rfl, p, _, _, _, rfl, rfl, sqL_same s1 hp, ix0, rfl, _, rfl, ite2 (fun hs => ?_) (fun hs => ?_)⟩
          · exact ⟨_, rfl, rfl, _, rfl, kN H1 sn s1⟩
          · exact kN H1 sn s1
    · have l2 : ws.length ≠ 2 := fun z => hb (by rw [List.length_map, z]; exact decide_eq_true rfl)
      refine ⟨fun b H' => Same H H' ∧ (b = false → ∃ w0 w1 w2 r, ws = w0 :: w1 :: w2 :: r ∧ r.length ≤ 2 ∧ (w0 = lsS "make" ∨ w0 = lsS "open") ∧ isW w1 = true) ∧ (b = true → stepIn at_ ws = none), ?_, ?_⟩
      · have big : ws.length < 3 ∨ 5 < ws.length → stepIn at_ ws = none := fun h => by
          rcases h with h | h
          · exact stepIn_few (by omega)
          · obtain ⟨w0, w1, w2, r, rfl⟩ := three_of (show 3 ≤ ws.length by omega)
            rw [stepIn_long, if_neg fun z => by have := z.1; simp only [List.length_cons] at h; omega]
        refine ⟨_, rfl, p, _, rfl, .inl hp, _, _, rfl, rfl, _, rfl, ite2 (fun h1 => ?_) (fun h1 => ?_)⟩
        · have h3 : 3 ≤ ws.length := by
            have := of_decide_eq_true h1
            rw [List.length_map] at this
            omega
          refine ⟨_, _, rfl, rfl, _, _, rfl, rfl, _, rfl, ?_⟩
          rw [List.length_map]
          by_cases h5 : ws.length ≤ 5
          · rw [show decide ((ws.length : Int) ≤ (2 + 3 : Int)) = true from decide_eq_true (by omega)]
            obtain ⟨w0, w1, w2, r, rfl⟩ := three_of h3
            have r2 : r.length ≤ 2 := by simp only [List.length_cons] at h5; omega
            refine ⟨_, rfl, p, _, _, _, rfl, rfl, hp, ix0, (by show 2 ≤ sizeLine; omega), fun t ht => ?_⟩
            first | generalize hGt : upd _ t _ = H1 | (show Ends.nx _ _ (upd _ t _); generalize hGt : upd _ t _ = H1)
            have s1 := same_of_upd ht hGt
            have e1 := at_of_upd hGt
            refine ⟨t, _, rfl, .inr (SqT.of e1), rfl, rfl, _, rfl, ?_⟩
            rw [show inV (V.str w0) [V.str (PySem.Str.ofString "make"), V.str (PySem.Str.ofString "open")] = _ from inV_two]
            by_cases hm : w0 = lsS "make" ∨ w0 = lsS "open"
            · rw [show decide (w0 = PySem.Str.ofString "make" ∨ w0 = PySem.Str.ofString "open") = true from decide_eq_true hm]
              refine ⟨_, rfl, p, _, _, _, rfl, rfl, sqL_same s1 hp, ix1, _, rfl, .inl ⟨w1, rfl, by have := xl w1 (by simp); omega, fun H2 s2 => ⟨_, rfl, same_tr s1 s2, fun z => ⟨w0, w1, w2, r, rfl, r2, hm, ?_⟩, fun z => ?_⟩⟩⟩
              · simpa using z
              · rw [stepIn_long, if_neg fun y => by rw [y.2.2] at z; cases z]
            · rw [show decide (w0 = PySem.Str.ofString "make" ∨ w0 = PySem.Str.ofString "open") = false from decide_eq_false hm]
              exact ⟨s1, fun z => (by cases z), fun _ => by rw [stepIn_long, if_neg fun y => hm y.2.1]⟩
          · rw [show decide ((ws.length : Int) ≤ (2 + 3 : Int)) = false from decide_eq_false (by omega)]
            exact ⟨same_rfl, fun z => (by cases z), fun _ => big (.inr (by omega))⟩
        · exact ⟨_, rfl, same_rfl, fun z => (by cases z), fun _ => big (.inl (by
            have : ¬ ((3 : Int) ≤ (ws.map V.str).length) := fun z => h1 (decide_eq_true z)
            rw [List.length_map] at this
            omega))⟩
      · rintro b H1 ⟨s1, hF, hT⟩
        cases b with
        | true => exact kN H1 (hT rfl) s1
        | false =>
          obtain ⟨w0, w1, w2, r, rfl, r2, hm, hw1⟩ := hF rfl
          have se : stepIn at_ (w0 :: w1 :: w2 :: r) = (numsIn at_ (w2 :: r)).map (fun ns => if w0 = lsS "make" then .make w1 ns else .opn w1 ns) := by rw [stepIn_long, if_pos ⟨r2, hm, hw1⟩]
          obtain ⟨nY, nN⟩ := numsIn_all (a := at_) (w2 :: r)
          have cut : cutV ((w0 :: w1 :: w2 :: r).map V.str) (some 2) none = (w2 :: r).map V.str := by
            unfold cutV
            have e1 : HT.sIx ((w0 :: w1 :: w2 :: r).map V.str).length 0 (some 2) = 2 := by simp [HT.sIx]
            have e2 : HT.sIx ((w0 :: w1 :: w2 :: r).map V.str).length ((w0 :: w1 :: w2 :: r).map V.str).length none = r.length + 3 := by simp [HT.sIx]
            rw [e1, e2]
            simp
            exact List.take_of_length_le (by simp)
          simp only [se] at kS kN
          clear se
          refine ⟨_, rfl, _, rfl, p, _, rfl, sqL_same s1 hp, fun q hq => ?_⟩
          rw [cut]
          first | generalize hGq : upd _ q _ = H2 | (show Ends.nx _ _ (upd _ q _); generalize hGq : upd _ q _ = H2)
          have s2 := same_of_upd hq hGq
          have e2 := at_of_upd hGq
          have xl' : ∀ x ∈ w2 :: r, x.length ≤ 100000 := fun x hx => xl x (List.mem_cons_of_mem _ (List.mem_cons_of_mem _ hx))
          have wl' : (w2 :: r).length ≤ 3 := by rw [List.length_cons]; omega
          generalize w2 :: r = xs at e2 xl' nY nN kS kN wl'
          refine ⟨q, rfl, ⟨_, SqL.of e2⟩, fun D hDn => ?_⟩
          refine lc_list (K := K) (a := q) (xs := xs.map V.str) (fun i H' => H' D = some (.lst (((xs.take i).map numIn).map optI)) ∧ Same H2 H') ⟨upd_same, same_new same_rfl hDn⟩ (fun i H' _ z => SqL.of (z.2 _ _ e2)) ?_ ?_
          · rintro i y H3 hi ⟨e3, s3⟩
            rw [List.getElem?_map] at hi
            obtain ⟨x, hx, rfl⟩ := Option.map_eq_some_iff.mp hi
            have il : i < xs.length := (List.getElem?_eq_some_iff.mp hx).1
            have fin : ∀ (o : Option Int) (H4 : Hp), numIn x = o → Same H3 H4 → ∃ acc, H4 D = some (.lst acc) ∧ acc.length < sizeLine ∧ upd H4 D (.lst (acc ++ [optI o])) D = some (.lst (((xs.take (i + 1)).map numIn).map optI)) ∧ Same H2 (upd H4 D (.lst (acc ++ [optI o]))) := fun o H4 ho s4 =>
              ⟨_, s4 _ _ e3, by rw [List.length_map, List.length_map, List.length_take]; omega, by rw [upd_same, take_map_snoc hx, List.map_append, ho]; rfl, same_off (same_tr s3 s4) hDn⟩
            refine ⟨rfl, yes_if ?_⟩
            exact ⟨_, rfl, x, rfl, xl' x (List.mem_of_getElem? hx), fun n H4 hn s4 => fin (some n) H4 hn s4, fun H4 hn s4 => fin none H4 hn s4⟩
          · rintro H3 ⟨e3, s3⟩
            rw [List.length_map, List.take_of_length_le (Nat.le_refl _)] at e3
            have ol : (xs.map numIn).length ≤ 3 := by rw [List.length_map]; exact wl'
            have nn : ∀ o ∈ xs.map numIn, ∀ n, o = some n → 0 ≤ n := fun o ho n e => by
              obtain ⟨x, _, rfl⟩ := List.mem_map.mp ho
              exact numIn_nn e
            generalize xs.map numIn = os at e3 nY nN ol nn
            refine ⟨_, rfl, D, rfl, ⟨_, SqL.of e3⟩, fun D2 hD2 => ?_⟩
            refine lc_list (K := K) (a := D) (xs := os.map optI) (fun i H' => H' D2 = some (.lst (((os.take i).map (okI at_)).map V.bl)) ∧ Same H3 H') ⟨upd_same, same_new same_rfl hD2⟩ (fun i H' _ z => SqL.of (z.2 _ _ e3)) ?_ ?_
            · rintro i y H4 hi ⟨e4, s4⟩
              rw [List.getElem?_map] at hi
              obtain ⟨o, ho, rfl⟩ := Option.map_eq_some_iff.mp hi
              have il : i < os.length := (List.getElem?_eq_some_iff.mp ho).1
              have fin : ∃ acc, H4 D2 = some (.lst acc) ∧ acc.length < sizeLine ∧ upd H4 D2 (.lst (acc ++ [V.bl (okI at_ o)])) D2 = some (.lst (((os.take (i + 1)).map (okI at_)).map V.bl)) ∧ Same H3 (upd H4 D2 (.lst (acc ++ [V.bl (okI at_ o)]))) :=
                ⟨_, e4, by rw [List.length_map, List.length_map, List.length_take]; omega, by rw [upd_same, take_map_snoc ho, List.map_append]; rfl, same_off s4 hD2⟩
              refine ⟨rfl, yes_if ?_⟩
              cases o with
              | none => exact ⟨_, rfl, rfl, _, rfl, fin⟩
              | some n => exact ⟨_, rfl, rfl, _, rfl, _, rfl, _, rfl, _, _, rfl, rfl, fin⟩
            · rintro H4 ⟨e4, s4⟩
              rw [List.length_map, List.take_of_length_le (Nat.le_refl _)] at e4
              have s14 := same_tr s2 (same_tr s3 s4)
              have s04 := same_tr s1 s14
              refine ⟨D2, _, rfl, SqL.of e4, _, rfl, ?_⟩
              cases hall : (os.map (okI at_)).all id with
              | false =>
                exact kN H4 (by rw [nN hall]; rfl) s04
              | true =>
                have g := getD_all hall
                rw [g] at e3
                have ap := sqL_same s14 (sqL_same s1 hp)
                refine ⟨_, rfl, p, _, _, _, rfl, rfl, ap, ix0, _, rfl, p, _, _, _, rfl, rfl, ap, ix1, _, rfl, D, _, rfl, .inl ⟨SqL.of (s4 _ _ e3), fun u hu => ?_⟩⟩
                first | generalize hGu : upd _ u _ = H5 | (show Ends.nx _ _ (upd _ u _); generalize hGu : upd _ u _ = H5)
                have s5 := same_of_upd hu hGu
                have e5 := at_of_upd hGu
                refine ⟨(by show 3 ≤ sizeLine; omega), fun t5 ht5 => ?_⟩
                first | generalize hGt5 : upd _ t5 _ = H6 | (show Ends.nx _ _ (upd _ t5 _); generalize hGt5 : upd _ t5 _ = H6)
                have s6 := same_of_upd ht5 hGt5
                have e6 := at_of_upd hGt5
                have s46 := same_tr s04 (same_tr s5 s6)
                have se := nY hall
                have intE : (os.map fun o => (o.getD 0)).map V.int = (os.map fun o => (o.getD 0).toNat).map natV := by
                  rw [List.map_map, List.map_map]
                  refine List.map_congr_left fun o ho => ?_
                  cases o with
                  | none =>
                    have := List.all_eq_true.mp hall (okI at_ none) (List.mem_map_of_mem ho)
                    cases this
                  | some n => exact (natV_of (nn _ ho n rfl)).symm
                rw [intE] at e5
                rcases hm with rfl | rfl
                · exact kS (.ref t5) _ H6 (by rw [se]; rfl) s46 (by dsimp only; rw [if_pos rfl]; exact ⟨t5, u, rfl, SqT.of e6, SqT.of (s6 _ _ e5)⟩)
                · exact kS (.ref t5) _ H6 (by rw [se]; rfl) s46 (by dsimp only; rw [if_neg lit_ne.2.2.2.2.2.symm]; exact ⟨t5, u, rfl, SqT.of e6, SqT.of (s6 _ _ e5)⟩)
abbrev nRead : List Str := ["text", "steps", "words", "step", "part"]
theorem scRead : FnScope nRead ["text"] (defScope sRead) := ⟨rfl, rfl, rfl, by decide +kernel, rfl, by decide +kernel, by decide +kernel⟩
theorem ok_Read  {f : Addr} {fd : FuncData} (F : Fun K "read_recipe" "read_recipe" sRead f fd) (B : Bi mg) (u_stepin : Use P w K mg base 2 "_step_in" ["words", "at"] (spStepIn K)) : FnOk P w K mg base CX0 (3) f fd ["text"] (spRead K) := by
  refine F.ok scRead (fun vs H Q E h => ?_) (fun cdv A outer s H vs Q E hr h => ?_)
  · obtain ⟨ss, rfl, _⟩ := h
    rfl
  · obtain ⟨ss, rfl, rw_, k⟩ := h
    have line : sizeLine = 16777216 := sizeLine_eq
    refine ⟨_, (pss_cons (ps_if (pt_not (pt_val (pe_callB call_isi (by rfl) B.isinstance (by decide +kernel) (pa_cons (pv 0) (pa_cons (pe_bltn (v := .ty "str") rfl B.str (by decide +kernel) rfl) pa_nil))))) (pss_one ps_dead) pss_nil)
      (pss_cons (ps_set (i := 1) scRead.nd rfl (.inl rfl) (pe_lst pa_nil))
      (pss_cons (ps_for PassesOwn.never rfl (pi_list (pe_lc (own := [("part", 4)]) (g := (gName 4)) (tt := tYes) rfl scRead.nd (pi_list (pe_split (pv 0) pe_str)) (blkOk_by (own := [("part", 4)]) (N := nRead) (sc := defScope sRead) (by decide +kernel)) (fun _ _ _ _ _ => (pg_name (i := 4) scRead.nd rfl (Or.inl rfl))) (fun _ _ _ _ _ => pts_nil) (fun _ _ _ _ _ => (pe_split (pv 4) pe_str)))) (pg_name (i := 2) scRead.nd rfl (Or.inl rfl))
        (pss_cons (ps_set (i := 3) scRead.nd rfl (.inl rfl) (pe_use u_stepin (hr.mono (by omega)) rfl (pa_cons (pv 2) (pa_cons (pe_callB call_len_seq (by rfl) B.len PySem.boot_len (pa_cons (pv 1) pa_nil)) pa_nil))))
      (pss_cons (ps_if (pt_cmpR op_isN (pv 3) pe_non (nomark _)) (pss_one ps_dead) pss_nil)
      (pss_one (ps_expr (pe_bm PySem.F.plainAttrs_list PySem.F.slot_list_append PySem.F.type_list_append mt_append (pv 1) (pa_cons (pv 3) pa_nil)))))))
      (pss_one (ps_ret (pe_callTy call_tuple_of (by rfl) B.tuple (by decide +kernel) (pa_cons (pv 1) pa_nil))))))), ?_⟩
    obtain ⟨tl, _⟩ := rcT_len rw_
    have l2 := rw_.2.2
    have sp := rc_split rw_
    refine ⟨_, rfl, _, _, _, _, true, rfl, .ty "str", .base (.str _), kit_ty rfl, _, rfl, ite2 (fun z => absurd z (by decide)) (fun _ => ?_)⟩
    refine ⟨Nat.zero_le _, fun fl hfl => ?_⟩
    first | generalize hGfl : upd _ fl _ = H0 | (show Ends.nx _ _ (upd _ fl _); generalize hGfl : upd _ fl _ = H0)
    have s0 := same_of_upd hfl hGfl
    have e0 := at_of_upd hGfl
    refine ⟨_, rfl, ⟨_, rfl⟩, _, _, rfl, rfl, by decide +kernel, by omega, fun q hq => ?_⟩
    rw [show Txt.split (rcT ss) (PySem.Str.ofString ";") = _ from sp]
    first | generalize hGq : upd _ q _ = H1 | (show Ends.nx _ _ (upd _ q _); generalize hGq : upd _ q _ = H1)
    have s1 := same_of_upd hq hGq
    have e1 := at_of_upd hGq
    refine ⟨q, rfl, ⟨_, SqL.of e1⟩, fun D hDn => ?_⟩
    refine lc_list (K := K) (a := q) (xs := (ss.map stT).map V.str) (fun i H' => ∃ as : List Addr, H' D = some (.lst (as.map V.ref)) ∧ as.length = i ∧ Paired (fun a s => a ≠ D ∧ a ≠ fl ∧ H' a = some (.lst ((stW s).map V.str))) as (ss.take i) ∧ Same H1 H') ⟨[], upd_same, rfl, .nil, same_new same_rfl hDn⟩ (fun i H' _ ⟨_, _, _, _, z⟩ => SqL.of (z _ _ e1)) ?_ ?_
    · rintro i y H2 hi ⟨as, e2, al, hp, s2⟩
      rw [List.getElem?_map, List.getElem?_map] at hi
      obtain ⟨z, hz, rfl⟩ := Option.map_eq_some_iff.mp hi
      obtain ⟨s, hs, rfl⟩ := Option.map_eq_some_iff.mp hz
      have il : i < ss.length := (List.getElem?_eq_some_iff.mp hs).1
      have sw := rw_.1 i s hs
      have sl := (stT_len sw (by omega)).1
      refine ⟨rfl, yes_if ?_⟩
      refine ⟨_, rfl, ⟨_, rfl⟩, _, _, rfl, rfl, by decide +kernel, by omega, fun a ha => ?_⟩
      rw [show Txt.split (stT s) (PySem.Str.ofString " ") = _ from st_split sw (by omega)]
      first | generalize hGa : upd _ a _ = H3 | (show Ends.nx _ _ (upd _ a _); generalize hGa : upd _ a _ = H3)
      have s3 := same_of_upd ha hGa
      have e3 := at_of_upd hGa
      have e23 := s3 _ _ e2
      have aD : a ≠ D := (ne_of_none e2 ha).symm
      have afl : a ≠ fl := (ne_of_none (s2 _ _ (s1 _ _ e0)) ha).symm
      refine ⟨_, e23, by rw [List.length_map]; omega, as ++ [a], by rw [upd_same, List.map_append]; rfl, by rw [List.length_append, al]; rfl, ?_, same_off (same_tr s2 s3) hDn⟩
      rw [show ss.take (i + 1) = ss.take i ++ [s] by rw [List.take_add_one, hs]; rfl]
      exact paired_snoc (R := fun b s => b ≠ D ∧ b ≠ fl ∧ upd H3 D (.lst (as.map V.ref ++ [.ref a])) b = some (.lst ((stW s).map V.str))) ⟨aD, afl, (upd_ne aD).trans e3⟩ (paired_mono (fun b s h => ⟨h.1, h.2.1, (upd_ne h.1).trans (s3 _ _ h.2.2)⟩) hp)
    rintro H2 ⟨as, e2, al, hp, s2⟩
    rw [List.length_map, List.length_map] at al hp
    rw [List.take_of_length_le (Nat.le_refl _)] at hp
    have flD : fl ≠ D := ne_of_none (s1 _ _ e0) hDn
    refine ⟨D, rfl, ⟨_, SqL.of e2⟩, ?_⟩
    refine for_list (K := K) (a := D) (xs := as.map V.ref) (fun i σ H' => ∃ (vs : List V) (o2 o3 : Option V), σ = [some (.str (rcT ss)), some (.ref fl), o2, o3, none] ∧ H' fl = some (.lst vs) ∧ vs.length = i ∧ Paired (StAt K H') vs (ss.take i) ∧ Same H H' ∧ (∀ b u, b ≠ fl → H2 b = some u → H' b = some u)) ⟨[], none, none, rfl, s2 _ _ (s1 _ _ e0), rfl, .nil, same_tr s0 (same_tr s1 s2), fun _ _ _ h => h⟩ (fun i σ H' _ ⟨_, _, _, _, _, _, _, _, z⟩ => SqL.of (z _ _ flD.symm e2)) ?_ ?_
    · rintro i y σ H3 hi ⟨vs, o2, o3, rfl, e3, vl, hv, s3, st3⟩
      rw [List.getElem?_map] at hi
      obtain ⟨a, ha, rfl⟩ := Option.map_eq_some_iff.mp hi
      obtain ⟨s, hs, aD, afl, ea⟩ := paired_at hp ha
      have il : i < ss.length := (List.getElem?_eq_some_iff.mp hs).1
      have sw := rw_.1 i s hs
      obtain ⟨wl, wx⟩ := stW_len sw (by omega)
      refine ⟨_, rfl, _, rfl, fl, vs, rfl, .inl (SqL.of e3), a, stW s, i, by rw [vl], SqL.of (st3 _ _ afl ea), by omega, fun x hx => by have := wx x hx; omega, fun v s' H4 hs' s4 hv4 => ?_, fun H4 hn _ => by rw [stepIn_stW sw (by omega)] at hn; cases hn⟩
      rw [stepIn_stW sw (by omega)] at hs'
      cases hs'
      have vne : decide (v = V.non) = false := by
        cases s with
        | shown i => obtain ⟨a, rfl, _⟩ := hv4; rfl
        | word x => obtain ⟨a, rfl, _⟩ := hv4; rfl
        | make c ns => obtain ⟨a, b, rfl, _⟩ := hv4; rfl
        | opn c ns => obtain ⟨a, b, rfl, _⟩ := hv4; rfl
      refine ⟨_, rfl, rfl, _, rfl, ?_⟩
      rw [vne]
      have e4 := s4 _ _ e3
      have kt4 : KTu K H4 (upd H4 fl (.lst (vs ++ [v]))) := kt_lst e4
      refine ⟨_, rfl, .inl ⟨rfl, _, SqL.of e4⟩, _, rfl, fl, vs, v, rfl, rfl, e4, by omega, vs ++ [v], _, _, rfl, upd_same, by rw [List.length_append, vl]; rfl, ?_, same_off (same_tr s3 s4) hfl, fun b u hb h => (upd_ne hb).trans (s4 _ _ (st3 b u hb h))⟩
      rw [show ss.take (i + 1) = ss.take i ++ [s] by rw [List.take_add_one, hs]; rfl]
      exact paired_snoc (R := StAt K _) (StAt.kt kt4 hv4) (paired_mono (fun a b h => StAt.kt (KTu.tr (kt_same s4) kt4) h) hv)
    · rintro σ H3 ⟨vs, o2, o3, rfl, e3, vl, hv, s3, st3⟩
      rw [List.length_map] at vl hv
      rw [List.take_of_length_le (by omega)] at hv
      refine ⟨_, rfl, fl, vs, rfl, .inl ⟨SqL.of e3, fun u hu => ?_⟩⟩
      have s4 : Same H3 (upd H3 u (.tup vs)) := same_new same_rfl hu
      exact k u vs _ (same_tr s3 s4) (SqT.of upd_same) (paired_mono (fun a b h => StAt.kt (kt_same s4) h) hv)
end
end K15


set_option Elab.async false
set_option linter.all false
set_option maxRecDepth 100000
set_option maxHeartbeats 1000000
/-! What can be shown (repr): sizes, texts, recipes. -/
namespace Mine
open PySem PySem.Spec PyProof.Rows L2 TL
theorem map_sum_le {ds : List PyData} {f : PyData → Nat} {k : Nat} (h : ∀ d ∈ ds, f d ≤ k) : (ds.map f).sum ≤ ds.length * k := by
  induction ds with
  | nil => simp
  | cons d ds ih =>
    have := h d (List.mem_cons_self ..)
    have := ih fun x hx => h x (List.mem_cons_of_mem _ hx)
    simp only [List.map_cons, List.sum_cons, List.length_cons, Nat.add_mul]
    omega
theorem shows_list {ds : List PyData} {n l : Nat} (h : ∀ d ∈ ds, Shows n l d) : Shows (ds.length * n + 2 * ds.length + 3) (l + 1) (.list ds) := by
  refine ⟨?_, ?_, ?_⟩
  · simp only [PyData.showable]
    exact showableAll_iff.mpr fun d hd => (h d hd).ok
  · have h1 := listText_len_le (PyData.shownAll ds)
    rw [shownAll_eq, List.map_map, List.length_map] at h1
    have := map_sum_le (f := (fun x : Str => x.length) ∘ PyData.shown) fun d hd => (h d hd).len
    simp only [PyData.shown]
    rw [shownAll_eq]
    omega
  · have := deps_le.mpr fun d hd => (h d hd).dep
    simp only [PyData.depth]
    omega
theorem shows_tuple {ds : List PyData} {n l : Nat} (h : ∀ d ∈ ds, Shows n l d) : Shows (ds.length * n + 2 * ds.length + 3) (l + 1) (.tuple ds) := by
  refine ⟨?_, ?_, ?_⟩
  · simp only [PyData.showable]
    exact showableAll_iff.mpr fun d hd => (h d hd).ok
  · have h1 := tupleText_len_le (PyData.shownAll ds)
    rw [shownAll_eq, List.map_map, List.length_map] at h1
    have := map_sum_le (f := (fun x : Str => x.length) ∘ PyData.shown) fun d hd => (h d hd).len
    simp only [PyData.shown]
    rw [shownAll_eq]
    omega
  · have := deps_le.mpr fun d hd => (h d hd).dep
    simp only [PyData.depth]
    omega
theorem showD_up {n n' l l' : Nat} {d : PyData} (h : Shows n l d) (h1 : n ≤ n') (h2 : l ≤ l') : Shows n' l' d := ⟨h.ok, Nat.le_trans h.len h1, Nat.le_trans h.dep h2⟩
theorem shows_strB {x : Str} (h : ∀ c ∈ x.cps.toList, c < 16 ^ 8) : Shows (10 * x.length + 2) 0 (.str x) := by
  refine ⟨by simp [PyData.showable], ?_, by simp [PyData.depth]⟩
  rw [PyData.shown_str]
  exact StrLaws.reprText_len x h
theorem shows_intB {w : Int} {k : Nat} (k0 : 0 < k) (k1 : k < 1920) (h : w.natAbs < 2 ^ k) : Shows (k + 1) 0 (.int w) := by
  have l : w.natAbs.log2 < k := by
    by_cases z : w.natAbs = 0
    · rw [z]
      simpa using k0
    · exact (Nat.log2_lt z).mpr h
  refine ⟨by simp only [PyData.showable]; exact decide_eq_true (by omega), ?_, by simp [PyData.depth]⟩
  have := int_text_length_le k0 l
  have e : PyData.shown (.int w) = PySem.Str.ofString (toString w) := by simp only [PyData.shown]
  rw [e, PySem.ofString_length]
  exact this
theorem joinL_all {P : Nat → Prop} {S : List Nat} (hS : ∀ c ∈ S, P c) : ∀ {ps : List (List Nat)}, (∀ p ∈ ps, ∀ c ∈ p, P c) → ∀ c ∈ joinL S ps, P c
  | [], _ => by simp [joinL]
  | [p], h => h p (List.mem_cons_self ..)
  | p :: q :: r, h => by
    show ∀ c ∈ p ++ (S ++ joinL S (q :: r)), P c
    intro c z
    rcases List.mem_append.mp z with z | z
    · exact h p (List.mem_cons_self ..) c z
    · rcases List.mem_append.mp z with z | z
      · exact hS c z
      · exact joinL_all hS (fun x hx => h x (List.mem_cons_of_mem _ hx)) c z
theorem nums_sign : ∀ n ≤ 300, ∀ c ∈ tl (nums n), signOk c = true := by decide +kernel
theorem lit_sign : (∀ c ∈ tl (lsS "shown"), signOk c = true) ∧ (∀ c ∈ tl (lsS "word"), signOk c = true) ∧ (∀ c ∈ tl (lsS "make"), signOk c = true) ∧ (∀ c ∈ tl (lsS "open"), signOk c = true) := by decide +kernel
theorem isW_sign {x : Str} (h : isW x = true) : ∀ c ∈ tl x, signOk c = true := fun c hc => by
  have a : x.cps.toList.all (inS ABC) = true := by
    unfold isW at h
    rw [Bool.and_eq_true] at h
    exact h.2
  have all : ∀ c ∈ ABC.cps.toList, signOk c = true := by decide +kernel
  exact all c (of_decide_eq_true (List.all_eq_true.mp a c hc))
theorem stW_sign {i : Nat} {s : Stp} (h : StW i s) (i300 : i ≤ 300) : ∀ x ∈ stW s, ∀ c ∈ tl x, signOk c = true := by
  obtain ⟨l1, l2, l3, l4⟩ := lit_sign
  have ns3 : ∀ (ns : List Nat), (∀ m ∈ ns, m < i) → ∀ x ∈ ns.map nums, ∀ c ∈ tl x, signOk c = true := fun ns h x hx => by
    obtain ⟨m, hm, rfl⟩ := List.mem_map.mp hx
    exact nums_sign m (by have := h m hm; omega)
  intro x hx
  cases s with
  | shown k =>
    simp only [stW, List.mem_cons, List.not_mem_nil, or_false] at hx
    rcases hx with rfl | rfl
    · exact l1
    · exact nums_sign k h
  | word y =>
    simp only [stW, List.mem_cons, List.not_mem_nil, or_false] at hx
    rcases hx with rfl | rfl
    · exact l2
    · exact isW_sign h.1
  | make c ns =>
    simp only [stW, List.mem_cons] at hx
    rcases hx with rfl | rfl | hx
    · exact l3
    · exact isW_sign h.1
    · exact ns3 ns h.2.2.2.2 x hx
  | opn c ns =>
    simp only [stW, List.mem_cons] at hx
    rcases hx with rfl | rfl | hx
    · exact l4
    · exact isW_sign h.1
    · exact ns3 ns h.2.2.2.2 x hx
theorem sep_sign : (∀ c ∈ tl spS, signOk c = true) ∧ ∀ c ∈ tl scS, signOk c = true := by decide +kernel
theorem rcT_sign {ss : List Stp} (h : RcW ss) : ∀ c ∈ tl (rcT ss), signOk c = true := by
  unfold rcT
  rw [join_eq, tl_join]
  refine joinL_all sep_sign.2 fun p hp => ?_
  obtain ⟨x, hx, rfl⟩ := List.mem_map.mp hp
  obtain ⟨s, hs, rfl⟩ := List.mem_map.mp hx
  obtain ⟨i, hi⟩ := List.getElem?_of_mem hs
  have il : i < ss.length := (List.getElem?_eq_some_iff.mp hi).1
  unfold stT
  rw [join_eq, tl_join]
  refine joinL_all sep_sign.1 fun q hq => ?_
  obtain ⟨y, hy, rfl⟩ := List.mem_map.mp hq
  exact stW_sign (h.1 i s hi) (by have := h.2.2; omega) y hy
theorem sign_lt {c : Nat} (h : signOk c = true) : c < 16 ^ 8 := by
  unfold signOk at h
  have := (of_decide_eq_true h).2.1
  omega
theorem shows_rcT {ss : List Stp} (h : RcW ss) : Shows 200002 0 (.str (rcT ss)) :=
  showD_up (shows_strB fun c hc => sign_lt (rcT_sign h c hc)) (by have := (rcT_len h).1; omega) (Nat.le_refl _)
theorem shows_width {ss : List Stp} (h : RcW ss) : Shows 500 0 (.int (widthS ss)) := by
  obtain ⟨init, e⟩ := widths_last h.2.1
  have hl := widths_len ss
  have hg : (widthsS ss)[init.length]? = some (widthS ss) := by rw [e]; simp
  obtain ⟨a, b⟩ := widths_le ss h.1 _ _ hg
  have il : init.length ≤ 200 := by
    rw [e] at hl
    simp at hl
    have := h.2.2
    omega
  refine showD_up (shows_intB (k := 401) (by decide) (by decide) ?_) (by decide) (Nat.le_refl _)
  have p : 4 ^ init.length ≤ 4 ^ 200 := Nat.pow_le_pow_right (by decide) il
  have q : (4 : Nat) ^ 200 < 2 ^ 401 := by decide +kernel
  omega
theorem strOk_lt {x : Str} (h : isW x = true) : ∀ c ∈ x.cps.toList, c < 16 ^ 8 := fun c hc => sign_lt (isW_sign h c hc)
theorem shows_nat {n : Nat} (h : n ≤ 300) : Shows 11 0 (natD n) := by
  have e : (2 : Nat) ^ 10 = 1024 := by decide
  refine showD_up (shows_intB (k := 10) (by decide) (by decide) ?_) (by decide) (Nat.le_refl _)
  rw [e]
  omega
theorem shows_st {i : Nat} {s : Stp} (h : StW i s) (i300 : i ≤ 300) : Shows 400 2 (stD s) ∧ plainD (stD s) = true := by
  have lit : ∀ x ∈ [lsS "shown", lsS "word", lsS "make", lsS "open"], Shows 100 0 (.str x) ∧ plainD (.str x) = true := fun x hx => by
    have a : ∀ x ∈ [lsS "shown", lsS "word", lsS "make", lsS "open"], (∀ c ∈ x.cps.toList, c < 16 ^ 8) ∧ x.length ≤ 8 ∧ x.cps.toList.all signOk = true := by decide +kernel
    obtain ⟨a1, a2, a3⟩ := a x hx
    exact ⟨showD_up (shows_strB a1) (by omega) (Nat.le_refl _), by simpa [plainD] using a3⟩
  have wd : ∀ x, isW x = true → Shows 100 0 (.str x) ∧ plainD (.str x) = true := fun x hx => ⟨showD_up (shows_strB (strOk_lt hx)) (by have := isW_len hx; omega) (Nat.le_refl _), by
    simp only [plainD]
    exact List.all_eq_true.mpr (isW_sign hx)⟩
  have nn : ∀ ns : List Nat, ns.length ≤ 3 → (∀ m ∈ ns, m < i) → Shows 100 1 (.tuple (ns.map natD)) ∧ plainD (.tuple (ns.map natD)) = true := fun ns nl hn => by
    refine ⟨showD_up (shows_tuple (n := 11) (l := 0) fun d hd => ?_) (by rw [List.length_map]; omega) (Nat.le_refl _), ?_⟩
    · obtain ⟨m, hm, rfl⟩ := List.mem_map.mp hd
      exact shows_nat (by have := hn m hm; omega)
    · simp only [plainD]
      clear nl hn
      induction ns with
      | nil => rfl
      | cons n ns ih =>
        simp only [List.map_cons, plainDs, plainD, ih, Bool.and_true]
        exact decide_eq_true (by omega)
  have two : ∀ a b : PyData, Shows 100 0 a → Shows 100 0 b → Shows 400 2 (.tuple [a, b]) := fun a b ha hb => showD_up (shows_tuple (n := 100) (l := 1) fun d hd => by
    simp only [List.mem_cons, List.not_mem_nil, or_false] at hd
    rcases hd with rfl | rfl
    · exact showD_up ha (Nat.le_refl _) (by decide)
    · exact showD_up hb (Nat.le_refl _) (by decide)) (by simp) (Nat.le_refl _)
  have three : ∀ a b c : PyData, Shows 100 0 a → Shows 100 0 b → Shows 100 1 c → Shows 400 2 (.tuple [a, b, c]) := fun a b c ha hb hc => showD_up (shows_tuple (n := 100) (l := 1) fun d hd => by
    simp only [List.mem_cons, List.not_mem_nil, or_false] at hd
    rcases hd with rfl | rfl | rfl
    · exact showD_up ha (Nat.le_refl _) (by decide)
    · exact showD_up hb (Nat.le_refl _) (by decide)
    · exact hc) (by simp) (Nat.le_refl _)
  cases s with
  | shown k =>
    refine ⟨two _ _ (lit _ (by simp)).1 (showD_up (shows_nat h) (by decide) (Nat.le_refl _)), ?_⟩
    simp only [stD, plainD, plainDs, Bool.and_eq_true]
    exact ⟨by simpa [plainD] using (lit (lsS "shown") (by simp)).2, decide_eq_true (by omega), trivial⟩
  | word x =>
    refine ⟨two _ _ (lit _ (by simp)).1 (wd x h.1).1, ?_⟩
    simp only [stD, plainD, plainDs, Bool.and_eq_true]
    exact ⟨by simpa [plainD] using (lit (lsS "word") (by simp)).2, by simpa [plainD] using (wd x h.1).2, trivial⟩
  | make c ns =>
    obtain ⟨n1, n2⟩ := nn ns h.2.2.2.1 h.2.2.2.2
    refine ⟨three _ _ _ (lit _ (by simp)).1 (wd c h.1).1 n1, ?_⟩
    simp only [stD, plainDs, Bool.and_eq_true]
    show plainDs [_, _, _] = true
    simp only [plainDs, Bool.and_eq_true]
    exact ⟨(lit (lsS "make") (by simp)).2, (wd c h.1).2, n2, trivial⟩
  | opn c ns =>
    obtain ⟨n1, n2⟩ := nn ns h.2.2.2.1 h.2.2.2.2
    refine ⟨three _ _ _ (lit _ (by simp)).1 (wd c h.1).1 n1, ?_⟩
    show plainDs [_, _, _] = true
    simp only [plainDs, Bool.and_eq_true]
    exact ⟨(lit (lsS "open") (by simp)).2, (wd c h.1).2, n2, trivial⟩
theorem shows_rc {ss : List Stp} (h : RcW ss) : Shows 90000 3 (.tuple (ss.map stD)) ∧ plainD (.tuple (ss.map stD)) = true := by
  have each : ∀ s ∈ ss, Shows 400 2 (stD s) ∧ plainD (stD s) = true := fun s hs => by
    obtain ⟨i, hi⟩ := List.getElem?_of_mem hs
    have il : i < ss.length := (List.getElem?_eq_some_iff.mp hi).1
    exact shows_st (h.1 i s hi) (by have := h.2.2; omega)
  refine ⟨showD_up (shows_tuple (n := 400) (l := 2) fun d hd => ?_) (by rw [List.length_map]; have := h.2.2; omega) (Nat.le_refl _), ?_⟩
  · obtain ⟨s, hs, rfl⟩ := List.mem_map.mp hd
    exact (each s hs).1
  · simp only [plainD]
    clear h
    induction ss with
    | nil => rfl
    | cons s ss ih =>
      simp only [List.map_cons, plainDs, (each s (List.mem_cons_self ..)).2, Bool.true_and]
      exact ih fun x hx => each x (List.mem_cons_of_mem _ hx)
theorem stD_inj {i j : Nat} {s s' : Stp} (e : stD s = stD s') : s = s' := by
  obtain ⟨n1, n2, n3, n4, n5, n6⟩ := lit_ne
  have nat : ∀ {as bs : List Nat}, as.map natD = bs.map natD → as = bs := fun {as bs} => by
    induction as generalizing bs with
    | nil => cases bs <;> simp
    | cons a as ih =>
      cases bs with
      | nil => simp
      | cons b bs =>
        intro h
        simp only [List.map_cons, List.cons.injEq, natD, PyData.int.injEq] at h
        rw [ih h.2]
        have : a = b := by omega
        rw [this]
  cases s with
  | shown a =>
    cases s' with
    | shown b =>
      simp only [stD, PyData.tuple.injEq, List.cons.injEq, natD, PyData.int.injEq] at e
      have : a = b := by have := e.2.1; omega
      rw [this]
    | word y =>
      simp only [stD, PyData.tuple.injEq, List.cons.injEq, PyData.str.injEq] at e
      exact absurd e.1 n1
    | make c' ns' =>
      simp only [stD, PyData.tuple.injEq, List.cons.injEq, PyData.str.injEq] at e
      exact absurd e.1 n2
    | opn c' ns' =>
      simp only [stD, PyData.tuple.injEq, List.cons.injEq, PyData.str.injEq] at e
      exact absurd e.1 n3
  | word x =>
    cases s' with
    | shown b =>
      simp only [stD, PyData.tuple.injEq, List.cons.injEq, PyData.str.injEq] at e
      exact absurd e.1.symm n1
    | word y =>
      simp only [stD, PyData.tuple.injEq, List.cons.injEq, PyData.str.injEq] at e
      rw [e.2.1]
    | make c' ns' =>
      simp only [stD, PyData.tuple.injEq, List.cons.injEq, PyData.str.injEq] at e
      exact absurd e.1 n4
    | opn c' ns' =>
      simp only [stD, PyData.tuple.injEq, List.cons.injEq, PyData.str.injEq] at e
      exact absurd e.1 n5
  | make c ns =>
    cases s' with
    | shown b =>
      simp only [stD, PyData.tuple.injEq, List.cons.injEq, PyData.str.injEq] at e
      exact absurd e.1.symm n2
    | word y =>
      simp only [stD, PyData.tuple.injEq, List.cons.injEq, PyData.str.injEq] at e
      exact absurd e.1.symm n4
    | make c' ns' =>
      simp only [stD, PyData.tuple.injEq, List.cons.injEq, PyData.str.injEq] at e
      rw [e.2.1, nat e.2.2.1]
    | opn c' ns' =>
      simp only [stD, PyData.tuple.injEq, List.cons.injEq, PyData.str.injEq] at e
      exact absurd e.1 n6
  | opn c ns =>
    cases s' with
    | shown b =>
      simp only [stD, PyData.tuple.injEq, List.cons.injEq, PyData.str.injEq] at e
      exact absurd e.1.symm n3
    | word y =>
      simp only [stD, PyData.tuple.injEq, List.cons.injEq, PyData.str.injEq] at e
      exact absurd e.1.symm n5
    | make c' ns' =>
      simp only [stD, PyData.tuple.injEq, List.cons.injEq, PyData.str.injEq] at e
      exact absurd e.1.symm n6
    | opn c' ns' =>
      simp only [stD, PyData.tuple.injEq, List.cons.injEq, PyData.str.injEq] at e
      rw [e.2.1, nat e.2.2.1]
theorem rc_shown_inj {a b : List Stp} (ha : RcW a) (hb : RcW b) (e : (PyData.tuple (a.map stD)).shown = (PyData.tuple (b.map stD)).shown) : a = b := by
  have e1 := shown_inj (shows_rc ha).2 (shows_rc hb).2 e
  injection e1 with e1
  clear ha hb e
  induction a generalizing b with
  | nil => cases b with
    | nil => rfl
    | cons _ _ => cases e1
  | cons s a ih => cases b with
    | nil => cases e1
    | cons s' b =>
      rw [List.map_cons, List.map_cons] at e1
      injection e1 with h1 h2
      rw [stD_inj (i := 0) (j := 0) h1, ih h2]
/-- .. that may be called by keyword, too -/
def UseK (P : Program) (w : World) (K : PySem.W.Frag) (mg : Str → Option Value) (base : Heap) (k : Nat) (x : Str) (ps : List Str) (sp : Sp) : Prop :=
  ∃ (f : Addr) (fd : FuncData), FnOk P w K mg base CX0 k f fd ps sp ∧ Binds K fd ps [] ∧ mg x = some (.ref f) ∧ PySem.W.keepIn K (.ref f) = true ∧ ∀ (s : Shared) (ws : List Value), ws.length = ps.length → BindsTo s fd ⟨[], ps.zip ws⟩ (ps.zip ws)
theorem UseK.use {P : Program} {w : World} {K : PySem.W.Frag} {mg : Str → Option Value} {base : Heap} {k : Nat} {x : Str} {ps : List Str} {sp : Sp} : UseK P w K mg base k x ps sp → Use P w K mg base k x ps sp
  | ⟨f, fd, F, b, m, kp, _⟩ => ⟨f, fd, F, b, m, kp⟩
theorem pe_useK {X : Cx} {k : Nat} {ps : List Str} {sp : Sp} {x : Str} {p pos : Pos} {kws : List Keyword} {tk : TA} (U : UseK X.prog X.w X.K X.mg X.base k x ps sp) (hr : Room k X.A) (hg : Gl X x) (hkw : PK X kws tk) (hall : (backToKw pos (keywordEach kws X.env)).all (·.1.isSome) = true := by rfl) (hks : (backToKw pos (keywordEach kws X.env)).filterMap (·.1) = ps := by rfl)
    (hdb : (x == (PySem.Str.ofString "__debug__")) = false := by decide) (hpl : ((backTo pos (starEach [] X.env)).any (·.1) || (backToKw pos (keywordEach kws X.env)).any (·.1.isNone)) = false := by rfl) :
    PE X (.Call (.Name x p) [] kws pos) (tKw sp (fun z => z) tk) := by
  obtain ⟨f, fd, F, b, m, kp, kb⟩ := U
  exact pe_kw (ks := ps) (g := fun w => w) (gV := fun z => z) F hr hg m kp kb (fun _ _ z => z) (fun _ z => z) hkw hall hks hdb hpl
theorem room50 {k : Nat} {A : Around} (r : Room k A) : A.units + 30 + 20 < cLine := by have := r.un; omega
end Mine

set_option Elab.async false
set_option linter.all false
set_option maxRecDepth 100000
set_option maxHeartbeats 1000000
namespace K15
open PySem PySem.Spec PyProof.Rows L2 Mine TL StX SkE
/-! What the law asks of a recipe. -/
abbrev sRight : Stmt := top 35
def spRight (K : PySem.W.Frag) : Sp := fun vs H Q _ => ∃ (p : Addr) (us : List V) (ss : List Stp), vs = [.ref p] ∧ SqT K H p us ∧ Paired (StAt K H) us ss ∧ RcW ss ∧ ∀ H', Same H H' → Q (.bl true) H'
section
variable {P : Program} {w : World} {K : PySem.W.Frag} {mg : Str → Option Value} {base : Heap}
abbrev nRight : List Str := ["_law_steps_here", "_law_told"]
theorem scRight : FnScope nRight ["_law_steps_here"] (defScope sRight) := ⟨rfl, rfl, rfl, by decide +kernel, rfl, by decide +kernel, by decide +kernel⟩
theorem ok_Right  {f : Addr} {fd : FuncData} (F : Fun K "_law_right" "_law_right" sRight f fd) (B : Bi mg) (u_width : Use P w K mg base 1 "_law_width" ["_law_steps_here"] (spSize K)) (u_page : Use P w K mg base 1 "_law_page" ["_law_steps_here"] (spRcText K)) (uk_size : UseK P w K mg base 2 "written_size" ["recipe"] (spSize K)) (uk_rctext : UseK P w K mg base 3 "recipe_text" ["recipe"] (spRcText K)) (uk_read : UseK P w K mg base 3 "read_recipe" ["text"] (spRead K)) : FnG P w K mg base (4) f fd ["_law_steps_here"] (spRight K) := by
  refine fnG_of F scRight (fun vs H Q E h => ?_) (fun cdv A outer s H vs Q E hr hgd h => ?_)
  · obtain ⟨p, us, ss, rfl, _⟩ := h
    rfl
  · obtain ⟨p, us, ss, rfl, hp, hs, rw_, k⟩ := h
    have line : sizeLine = 16777216 := sizeLine_eq
    have u_size := uk_size.use
    have u_rctext := uk_rctext.use
    have u_read := uk_read.use
    refine ⟨_, (pss_cons (ps_set (i := 1) scRight.nd rfl (.inl rfl) (pe_lst (pa_cons (pe_use u_size (hr.mono (by omega)) rfl (pa_cons (pv 0) pa_nil)) (pa_cons (pe_useK uk_size (hr.mono (by omega)) rfl (pk_cons (pv 0) pk_nil)) (pa_cons (pe_use u_rctext (hr.mono (by omega)) rfl (pa_cons (pv 0) pa_nil)) (pa_cons (pe_useK uk_rctext (hr.mono (by omega)) rfl (pk_cons (pv 0) pk_nil)) pa_nil))))))
      (pss_cons (ps_if (pt_cmpR op_ne (pe_callB (call_reprQ (m := 30) hgd (room50 hr)) (by rfl) B.repr (by decide +kernel) (pa_cons (pv 1) pa_nil)) (pe_callB (call_reprQ (m := 30) hgd (room50 hr)) (by rfl) B.repr (by decide +kernel) (pa_cons (pe_op op_cat (pe_op op_rep (pe_lst (pa_cons (pe_use u_width (hr.mono (by omega)) rfl (pa_cons (pv 0) pa_nil)) pa_nil)) pe_int) (pe_op op_rep (pe_lst (pa_cons (pe_use u_page (hr.mono (by omega)) rfl (pa_cons (pv 0) pa_nil)) pa_nil)) pe_int)) pa_nil)) (nomark _)) (pss_one (ps_ret pe_bl)) pss_nil)
      (pss_one (ps_ret (pe_cmpR op_eq (pe_callB (call_reprQ (m := 30) hgd (room50 hr)) (by rfl) B.repr (by decide +kernel) (pa_cons (pe_lst (pa_cons (pe_use u_read (hr.mono (by omega)) rfl (pa_cons (pe_use u_page (hr.mono (by omega)) rfl (pa_cons (pv 0) pa_nil)) pa_nil)) (pa_cons (pe_useK uk_read (hr.mono (by omega)) rfl (pk_cons (pe_use u_page (hr.mono (by omega)) rfl (pa_cons (pv 0) pa_nil)) pk_nil)) pa_nil))) pa_nil)) (pe_callB (call_reprQ (m := 30) hgd (room50 hr)) (by rfl) B.repr (by decide +kernel) (pa_cons (pe_lst (pa_cons (pv 0) (pa_cons (pv 0) pa_nil))) pa_nil)) (nomark _)))))), ?_⟩
    have sW := shows_width rw_
    have sT := shows_rcT rw_
    have sR := (shows_rc rw_).1
    have st : ∀ {H' : Hp}, Same H H' → SqT K H' p us ∧ Paired (StAt K H') us ss := fun s => ⟨kt_same s _ _ hp, paired_mono (fun a b h => StAt.kt (kt_same s) h) hs⟩
    refine ⟨_, rfl, p, us, ss, rfl, hp, hs, rw_, fun H1 s1 => ?_⟩
    refine ⟨_, rfl, p, us, ss, rfl, (st s1).1, (st s1).2, rw_, fun H2 s2 => ?_⟩
    have s02 := same_tr s1 s2
    refine ⟨_, rfl, p, us, ss, rfl, (st s02).1, (st s02).2, rw_, fun H3 s3 => ?_⟩
    have s03 := same_tr s02 s3
    refine ⟨_, rfl, p, us, ss, rfl, (st s03).1, (st s03).2, rw_, fun H4 s4 => ?_⟩
    have s04 := same_tr s03 s4
    refine ⟨(by show 4 ≤ sizeLine; omega), fun tl htl => ?_⟩
    first | generalize hGtl : upd _ tl _ = H5 | (show Ends.nx _ _ (upd _ tl _); generalize hGtl : upd _ tl _ = H5)
    have s5 := same_of_upd htl hGtl
    have e5 := at_of_upd hGtl
    have s05 := same_tr s04 s5
    have four : Shows sizeLine 30 (.list [.int (widthS ss), .int (widthS ss), .str (rcT ss), .str (rcT ss)]) := showD_up (shows_list (n := 200002) (l := 0) fun d hd => by
      simp only [List.mem_cons, List.not_mem_nil, or_false] at hd
      rcases hd with rfl | rfl | rfl | rfl
      · exact showD_up sW (by decide) (Nat.le_refl _)
      · exact showD_up sW (by decide) (Nat.le_refl _)
      · exact sT
      · exact sT) (by show 4 * 200002 + 2 * 4 + 3 ≤ sizeLine; omega) (by decide)
    refine ⟨_, rfl, tl, _, _, rfl, .cons (.int _) (.cons (.int _) (.cons (.str _) (.cons (.str _) .nil))), .inl ⟨SqL.of e5, four, ?_⟩⟩
    refine ⟨_, rfl, p, us, ss, rfl, (st s05).1, (st s05).2, rw_, fun H6 s6 => ⟨(by show 1 ≤ sizeLine; omega), fun a1 ha1 => ?_⟩⟩
    first | generalize hGa1 : upd _ a1 _ = H7 | (show Ends.nx _ _ (upd _ a1 _); generalize hGa1 : upd _ a1 _ = H7)
    have s7 := same_of_upd ha1 hGa1
    have e7 := at_of_upd hGa1
    have s07 := same_tr s05 (same_tr s6 s7)
    refine ⟨a1, 2, _, rfl, rfl, e7, by decide, by decide, by show 1 * 2 ≤ sizeLine; omega, fun a2 ha2 => ?_⟩
    first | generalize hGa2 : upd _ a2 _ = H8 | (show Ends.nx _ _ (upd _ a2 _); generalize hGa2 : upd _ a2 _ = H8)
    have s8 := same_of_upd ha2 hGa2
    have e8 := at_of_upd hGa2
    have s08 := same_tr s07 s8
    refine ⟨_, rfl, p, us, ss, rfl, (st s08).1, (st s08).2, rw_, fun H9 s9 => ⟨(by show 1 ≤ sizeLine; omega), fun a3 ha3 => ?_⟩⟩
    first | generalize hGa3 : upd _ a3 _ = HA | (show Ends.nx _ _ (upd _ a3 _); generalize hGa3 : upd _ a3 _ = HA)
    have sA := same_of_upd ha3 hGa3
    have eA := at_of_upd hGa3
    have s0A := same_tr s08 (same_tr s9 sA)
    refine ⟨a3, 2, _, rfl, rfl, eA, by decide, by decide, by show 1 * 2 ≤ sizeLine; omega, fun a4 ha4 => ?_⟩
    first | generalize hGa4 : upd _ a4 _ = HB | (show Ends.nx _ _ (upd _ a4 _); generalize hGa4 : upd _ a4 _ = HB)
    have sB := same_of_upd ha4 hGa4
    have eB := at_of_upd hGa4
    have s0B := same_tr s0A sB
    refine ⟨a2, a4, _, _, rfl, rfl, sB _ _ (sA _ _ (s9 _ _ e8)), eB, by show 2 + 2 ≤ sizeLine; omega, fun a5 ha5 => ?_⟩
    first | generalize hGa5 : upd _ a5 _ = HC | (show Ends.nx _ _ (upd _ a5 _); generalize hGa5 : upd _ a5 _ = HC)
    have sC := same_of_upd ha5 hGa5
    have eC := at_of_upd hGa5
    have s0C := same_tr s0B sC
    refine ⟨a5, _, [.int (widthS ss), .int (widthS ss), .str (rcT ss), .str (rcT ss)], rfl, .cons (.int _) (.cons (.int _) (.cons (.str _) (.cons (.str _) .nil))), .inl ⟨SqL.of eC, four, ?_⟩⟩
    refine ⟨rfl, _, rfl, ite2 (fun z => absurd z (by simp)) (fun _ => ?_)⟩
    -- read again
    refine ⟨_, rfl, p, us, ss, rfl, (st s0C).1, (st s0C).2, rw_, fun HD sD => ?_⟩
    have s0D := same_tr s0C sD
    refine ⟨ss, rfl, rw_, fun q1 v1 HE sE hq1 hv1 => ?_⟩
    have s0E := same_tr s0D sE
    refine ⟨_, rfl, p, us, ss, rfl, (st s0E).1, (st s0E).2, rw_, fun HF sF => ?_⟩
    have s0F := same_tr s0E sF
    refine ⟨ss, rfl, rw_, fun q2 v2 HG sG hq2 hv2 => ?_⟩
    have s0G := same_tr s0F sG
    have kEG := kt_same (K := K) (same_tr sF sG)
    refine ⟨(by show 2 ≤ sizeLine; omega), fun a6 ha6 => ?_⟩
    first | generalize hGa6 : upd _ a6 _ = HH | (show Ends.nx _ _ (upd _ a6 _); generalize hGa6 : upd _ a6 _ = HH)
    have sH := same_of_upd ha6 hGa6
    have eH := at_of_upd hGa6
    have kH := kt_same (K := K) sH
    have d1 : Dp K HH (.ref q1) (.tuple (ss.map stD)) := .tup (kH _ _ (kEG _ _ hq1)) (sts_dp (paired_mono (fun a b h => StAt.kt kH (StAt.kt kEG h)) hv1))
    have d2 : Dp K HH (.ref q2) (.tuple (ss.map stD)) := .tup (kH _ _ hq2) (sts_dp (paired_mono (fun a b h => StAt.kt kH h) hv2))
    have two : Shows sizeLine 30 (.list [.tuple (ss.map stD), .tuple (ss.map stD)]) := showD_up (shows_list (n := 90000) (l := 3) fun d hd => by
      simp only [List.mem_cons, List.not_mem_nil, or_false] at hd
      rcases hd with rfl | rfl
      · exact sR
      · exact sR) (by show 2 * 90000 + 2 * 2 + 3 ≤ sizeLine; omega) (by decide)
    refine ⟨a6, _, _, rfl, .cons d1 (.cons d2 .nil), .inl ⟨SqL.of eH, two, ?_⟩⟩
    have s0H := same_tr s0G sH
    refine ⟨_, rfl, _, rfl, (by show 2 ≤ sizeLine; omega), fun a7 ha7 => ?_⟩
    first | generalize hGa7 : upd _ a7 _ = HI | (show Ends.nx _ _ (upd _ a7 _); generalize hGa7 : upd _ a7 _ = HI)
    have sI := same_of_upd ha7 hGa7
    have eI := at_of_upd hGa7
    have s0I := same_tr s0H sI
    have d3 : Dp K HI (.ref p) (.tuple (ss.map stD)) := .tup (st s0I).1 (sts_dp (st s0I).2)
    refine ⟨a7, _, [.tuple (ss.map stD), .tuple (ss.map stD)], rfl, .cons d3 (.cons d3 .nil), .inl ⟨SqL.of eI, two, ?_⟩⟩
    refine ⟨rfl, ?_⟩
    rw [decide_eq_true rfl]
    exact k HI s0I
end
end K15


set_option Elab.async false
set_option linter.all false
set_option maxRecDepth 100000
set_option maxHeartbeats 1000000
namespace K15
open PySem PySem.Spec PyProof.Rows L2 Mine TL StX SkE
/-! The law. -/
abbrev sLaw : Stmt := top 36
def spLaw (K : PySem.W.Frag) : Sp := fun vs H Q _ => ∃ (a : Addr) (ns : List Int), vs = [.ref a] ∧ SqL K H a (ns.map V.int) ∧ ns.length ≤ 63 ∧ ∀ H', Q (.bl true) H'
def handS (k : Nat) : List Stp := .shown 12 :: (List.range k).map fun i => .make (lsS "pair") [i, i]
theorem hand_rc : RcW (handS 99) := by
  refine ⟨fun i s hs => ?_, by simp [handS], by simp [handS]⟩
  cases i with
  | zero =>
    cases hs
    show 12 ≤ 300
    decide
  | succ i =>
    have hs : ((List.range 99).map fun i => Stp.make (lsS "pair") [i, i])[i]? = some s := hs
    rw [List.getElem?_map] at hs
    obtain ⟨j, hj, rfl⟩ := Option.map_eq_some_iff.mp hs
    have ij : i = j := by
      have := List.getElem?_eq_some_iff.mp hj
      obtain ⟨h, e⟩ := this
      simpa using e
    subst ij
    refine ⟨by decide +kernel, by decide +kernel, Nat.succ_le_succ (Nat.zero_le _), by show 2 ≤ 3; decide, fun m hm => ?_⟩
    simp at hm
    omega
theorem hand_w : widthS (handS 99) = 2 ^ 100 - 1 := by decide +kernel
def endS : List Stp := [.shown 0, .word (lsS "a"), .make (lsS "pair") [0, 1]]
theorem end_rc : RcW endS := by
  refine ⟨fun i s hs => ?_, by decide, by decide⟩
  rcases i with _ | _ | _ | i
  · cases hs
    show 0 ≤ 300
    decide
  · cases hs
    exact ⟨by decide +kernel, by decide +kernel⟩
  · cases hs
    exact ⟨by decide +kernel, by decide +kernel, by decide, by decide, by decide⟩
  · cases hs
theorem end_t : rcT endS = PySem.Str.ofString "shown 0;word a;make pair 0 1" := by decide +kernel
theorem one_rc : RcW [.word (lsS "a")] := by
  refine ⟨fun i s hs => ?_, by decide, by decide⟩
  rcases i with _ | i
  · cases hs
    exact ⟨by decide +kernel, by decide +kernel⟩
  · cases hs
section
variable {P : Program} {w : World} {K : PySem.W.Frag} {mg : Str → Option Value} {base : Heap}
abbrev nLaw : List Str := ["_law_script", "_law_deck_here", "_law_last", "_law_turn", "_law_w", "_law_items", "_law_again", "_law_steps_here", "_law_due", "_law_k"]
theorem scLaw : FnScope nLaw ["_law_script"] (defScope sLaw) := ⟨rfl, rfl, rfl, by decide +kernel, rfl, by decide +kernel, by decide +kernel⟩
theorem ok_Law  {f : Addr} {fd : FuncData} (F : Fun K "law" "law" sLaw f fd) (B : Bi mg) (u_deck : Use P w K mg base 1 "_law_deck" ["_law_script"] (spDeck K)) (u_world : Use P w K mg base 4 "_law_world" ["_law_deck_here"] (spWorld K)) (u_shown : Use P w K mg base 62 "_law_shown" ["_law_deck_here", "_law_w", "_law_many"] (spShown K)) (u_steps : Use P w K mg base 62 "_law_steps" ["_law_deck_here", "_law_w", "_law_items", "_law_many"] (spSteps K)) (u_rctext : Use P w K mg base 3 "recipe_text" ["recipe"] (spRcText K)) (u_size : Use P w K mg base 2 "written_size" ["recipe"] (spSize K)) (u_right : UseG P w K mg base 4 "_law_right" ["_law_steps_here"] (spRight K)) : FnG P w K mg base (63) f fd ["_law_script"] (spLaw K) := by
  refine fnG_of F scLaw (fun vs H Q E h => ?_) (fun cdv A outer s H vs Q E hr hgd h => ?_)
  · obtain ⟨a, ns, rfl, _⟩ := h
    rfl
  · obtain ⟨a, ns, rfl, hS, hlen, k⟩ := h
    have line : sizeLine = 16777216 := sizeLine_eq
    refine ⟨_, (pss_cons (ps_set (i := 1) scLaw.nd rfl (.inl rfl) (pe_use u_deck (hr.mono (by omega)) rfl (pa_cons (pv 0) pa_nil)))
      (pss_cons (ps_set (i := 2) scLaw.nd rfl (.inl rfl) (pe_tup (pa_cons (pe_tup (pa_cons pe_str (pa_cons pe_str pa_nil))) pa_nil)))
      (pss_cons (ps_for PassesOwn.never rfl (pi_range1 rfl B.range (pa_cons pe_int pa_nil)) (pg_name (i := 3) scLaw.nd rfl (Or.inl rfl))
        (pss_cons (ps_set (i := 4) scLaw.nd rfl (.inl rfl) (pe_use u_world (hr.mono (by omega)) rfl (pa_cons (pv 1) pa_nil)))
      (pss_cons (ps_set (i := 5) scLaw.nd rfl (.inl rfl) (pe_use u_shown (hr.mono (by omega)) rfl (pa_cons (pv 1) (pa_cons (pv 4) (pa_cons pe_int pa_nil)))))
      (pss_one (ps_for PassesOwn.never rfl (pi_range1 rfl B.range (pa_cons pe_int pa_nil)) (pg_name (i := 6) scLaw.nd rfl (Or.inl rfl))
        (pss_cons (ps_set (i := 7) scLaw.nd rfl (.inl rfl) (pe_use u_steps (hr.mono (by omega)) rfl (pa_cons (pv 1) (pa_cons (pv 4) (pa_cons (pv 5) (pa_cons pe_int pa_nil))))))
      (pss_cons (ps_if (PW.pt (pw_or (pt_not (pt_val (pe_useG u_right (hr.mono (by omega)) hgd rfl (pa_cons (pv 7) pa_nil)))) (pw_or1 (pt_cmpR op_ne (pe_cmpR op_eq (pe_use u_rctext (hr.mono (by omega)) rfl (pa_cons (pv 7) pa_nil)) (pe_use u_rctext (hr.mono (by omega)) rfl (pa_cons (pv 2) pa_nil)) (nomark _)) (pe_cmpR op_eq (pe_callB (call_reprQ (m := 30) hgd (room50 hr)) (by rfl) B.repr (by decide +kernel) (pa_cons (pv 7) pa_nil)) (pe_callB (call_reprQ (m := 30) hgd (room50 hr)) (by rfl) B.repr (by decide +kernel) (pa_cons (pv 2) pa_nil)) (nomark _)) (nomark _))))) (pss_one (ps_ret pe_bl)) pss_nil)
      (pss_one (ps_set (i := 2) scLaw.nd rfl (.inl rfl) (pv 7))))))))))
      (pss_cons (ps_par (i := 7) (j := 8) rfl scLaw.nd rfl rfl (by decide) rfl rfl (pa_cons (pe_op op_catT (pe_tup (pa_cons (pe_tup (pa_cons pe_str (pa_cons pe_int pa_nil))) pa_nil)) (pe_callTy call_tuple_of (by rfl) B.tuple (by decide +kernel) (pa_cons (pe_lc (own := [("_law_k", 9)]) (g := (gName 9)) (tt := tYes) rfl scLaw.nd (pi_range1 rfl B.range (pa_cons pe_int pa_nil)) (blkOk_by (own := [("_law_k", 9)]) (N := nLaw) (sc := defScope sLaw) (by decide +kernel)) (fun _ _ _ _ _ => (pg_name (i := 9) scLaw.nd rfl (Or.inl rfl))) (fun _ _ _ _ _ => pts_nil) (fun _ _ _ _ _ => (pe_tup (pa_cons pe_str (pa_cons pe_str (pa_cons (pe_tup (pa_cons (pv 9) (pa_cons (pv 9) pa_nil))) pa_nil)))))) pa_nil))) (pa_cons pe_int pa_nil)) (by rfl))
      (pss_cons (ps_for PassesOwn.never rfl (pi_range1 rfl B.range (pa_cons pe_int pa_nil)) (pg_name (i := 9) scLaw.nd rfl (Or.inl rfl))
        (pss_one (ps_set (i := 8) scLaw.nd rfl (.inl rfl) (pe_op op_add (pe_op op_mul pe_int (pv 8)) pe_int))))
      (pss_cons (ps_if (PW.pt (pw_or (pt_not (pt_val (pe_useG u_right (hr.mono (by omega)) hgd rfl (pa_cons (pv 7) pa_nil)))) (pw_or1 (pt_cmpR op_ne (pe_use u_size (hr.mono (by omega)) rfl (pa_cons (pv 7) pa_nil)) (pv 8) (nomark _))))) (pss_one (ps_ret pe_bl)) pss_nil)
      (pss_one (ps_ret (pe_cmpR op_eq (pe_use u_rctext (hr.mono (by omega)) rfl (pa_cons (pe_tup (pa_cons (pe_tup (pa_cons pe_str (pa_cons pe_int pa_nil))) (pa_cons (pe_tup (pa_cons pe_str (pa_cons pe_str pa_nil))) (pa_cons (pe_tup (pa_cons pe_str (pa_cons pe_str (pa_cons (pe_tup (pa_cons pe_int (pa_cons pe_int pa_nil))) pa_nil)))) pa_nil)))) pa_nil)) pe_str (nomark _)))))))))), ?_⟩
    refine ⟨_, rfl, a, ns, rfl, hS, hlen, fun dk dl H1 S1 _ _ D1 => ?_⟩
    refine ⟨(by show 2 ≤ sizeLine; omega), fun b1 hb1 => ?_⟩
    first | generalize hGb1 : upd _ b1 _ = H2 | (show Ends.nx _ _ (upd _ b1 _); generalize hGb1 : upd _ b1 _ = H2)
    have s2 := same_of_upd hb1 hGb1
    have e2 := at_of_upd hGb1
    refine ⟨(by show 1 ≤ sizeLine; omega), fun b2 hb2 => ?_⟩
    first | generalize hGb2 : upd _ b2 _ = H3 | (show Ends.nx _ _ (upd _ b2 _); generalize hGb2 : upd _ b2 _ = H3)
    have s3 := same_of_upd hb2 hGb2
    have e3 := at_of_upd hGb2
    have D3 := deck_same D1 (same_tr s2 s3)
    refine ⟨5, rfl, by decide, by decide, ?_⟩
    refine for_range (lo := 0) (n := 5) (fun n σ H' => ∃ (t : Int) (la : Addr) (lus : List V) (lss : List Stp) (o3 o4 o5 o6 o7 : Option V), σ = [some (.ref a), some (.ref dk), some (.ref la), o3, o4, o5, o6, o7, none, none] ∧ DeckAt H' dk dl t ∧ 0 ≤ t ∧ t ≤ 2000 * (n : Int) ∧ SqT K H' la lus ∧ Paired (StAt K H') lus lss ∧ RcW lss)
      ⟨0, b2, [.ref b1], [.word (lsS "a")], none, none, none, none, none, rfl, D3, by omega, by omega, SqT.of e3, .cons ⟨b1, rfl, SqT.of (s3 _ _ e2)⟩ .nil, one_rc⟩ ?_ ?_
    · rintro n σ H4 hn ⟨t, la, lus, lss, o3, o4, o5, o6, o7, rfl, D4, t0, tb, hla, hl, lrc⟩
      have n5 : n < 5 := hn
      refine ⟨_, rfl, dk, dl, t, rfl, D4, t0, by omega, fun wd ks os t5 H5 D5 ta5 tb5 K5 hW => ?_⟩
      have kt5 := kt_keep (K := K) D4 K5
      refine ⟨_, rfl, _, rfl, dk, dl, wd, t5, 5, ks, os, rfl, D5, hW, by omega, by omega, by decide, fun pi us items t6 H6 D6 ta6 tb6 K6 npi epi hus its ssum il => ?_⟩
      have poff := D5.off npi
      have kt6 := KTu.tr kt5 (kt_keep D5 K6)
      have W6 := hW.keep D5 K6
      have it40 : ∀ d ∈ items, ItK ks d ∧ sz d ≤ 40 := fun d hd => ⟨its d hd, by have := mem_szs hd; omega⟩
      refine ⟨5, rfl, by decide, by decide, ?_⟩
      refine for_range (lo := 0) (n := 5) (fun i σ H' => ∃ (t' : Int) (la : Addr) (lus : List V) (lss : List Stp) (o6 o7 : Option V), σ = [some (.ref a), some (.ref dk), some (.ref la), some (.int (0 + (n : Int))), some (.ref wd), some (.ref pi), o6, o7, none, none] ∧ DeckAt H' dk dl t' ∧ t6 ≤ t' ∧ t' ≤ t6 + 210 * (i : Int) ∧ SqT K H' la lus ∧ Paired (StAt K H') lus lss ∧ RcW lss ∧ Keep dk dl H6 H')
        ⟨t6, la, lus, lss, o6, o7, rfl, D6, by omega, by omega, kt6 _ _ hla, paired_mono (fun a b h => StAt.kt kt6 h) hl, lrc, Keep.refl⟩ ?_ ?_
      · rintro i σ H7 hi ⟨t7, la, lus, lss, o6, o7, rfl, D7, ta7, tb7, hla, hl, lrc, K7⟩
        have i5 : i < 5 := hi
        refine ⟨_, rfl, _, rfl, _, rfl, dk, dl, wd, pi, t7, 10, us, items, ks, os, rfl, D7, W6.keep D6 K7, by omega, by omega, by decide, by decide, K7 _ _ poff.1 poff.2 epi, poff.2, its_kt (kt_keep D6 K7) its hus, it40, by omega, fun p vs ss t8 H8 D8 ta8 tb8 K8 hp hv rc l1 l2 wok => ?_⟩
        have kt8 := kt_keep (K := K) D7 K8
        have rw_ : RcW ss := rc_w W6.kok W6.ook rc (by omega) l1 (by omega)
        have sR := (shows_rc rw_).1
        have sL := (shows_rc lrc).1
        have hla8 := kt8 _ _ hla
        have hl8 := paired_mono (fun a b h => StAt.kt kt8 h) hl
        refine ⟨_, rfl, p, vs, ss, rfl, hp, hv, rw_, fun H9 s9 => ⟨_, rfl, ite2 (fun z => absurd z (by decide)) (fun _ => ?_)⟩⟩
        have up : ∀ {H' : Hp}, Same H8 H' → (SqT K H' p vs ∧ Paired (StAt K H') vs ss) ∧ SqT K H' la lus ∧ Paired (StAt K H') lus lss := fun s => ⟨⟨kt_same s _ _ hp, paired_mono (fun a b h => StAt.kt (kt_same s) h) hv⟩, kt_same s _ _ hla8, paired_mono (fun a b h => StAt.kt (kt_same s) h) hl8⟩
        refine ⟨_, rfl, p, vs, ss, rfl, (up s9).1.1, (up s9).1.2, rw_, fun HA sA => ?_⟩
        have s8A := same_tr s9 sA
        refine ⟨_, rfl, la, lus, lss, rfl, (up s8A).2.1, (up s8A).2.2, lrc, fun HB sB => ?_⟩
        have s8B := same_tr s8A sB
        refine ⟨rfl, ?_⟩
        refine ⟨_, rfl, p, _, _, rfl, sts_dp (up s8B).1.2, .inr ⟨(up s8B).1.1, showD_up sR (by omega) (by decide), ?_⟩⟩
        refine ⟨_, rfl, la, _, _, rfl, sts_dp (up s8B).2.2, .inr ⟨(up s8B).2.1, showD_up sL (by omega) (by decide), ?_⟩⟩
        refine ⟨rfl, rfl, _, rfl, ?_⟩
        have same : decide (V.str (rcT ss) = V.str (rcT lss)) = decide (V.str (PyData.shown (.tuple (ss.map stD))) = V.str (PyData.shown (.tuple (lss.map stD)))) := by
          by_cases h : ss = lss
          · rw [h, decide_eq_true rfl, decide_eq_true rfl]
          · rw [decide_eq_false fun z => h (rcT_inj rw_ lrc (by injection z)), decide_eq_false fun z => h (rc_shown_inj rw_ lrc (by injection z))]
        rw [same]
        refine ite2 (fun z => absurd z (by simp)) (fun _ => ?_)
        refine ⟨_, rfl, t8, p, vs, ss, _, _, rfl, deck_same D8 s8B, by omega, by rw [Int.natCast_succ]; omega, (up s8B).1.1, (up s8B).1.2, rw_, K7.trans (K8.trans (same_keep s8B))⟩
      · rintro σ H7 ⟨t7, la, lus, lss, o6, o7, rfl, D7, ta7, tb7, hla, hl, lrc, K7⟩
        exact ⟨t7, la, lus, lss, _, _, _, _, _, rfl, D7, by omega, by rw [Int.natCast_succ]; omega, hla, hl, lrc⟩
    · rintro σ H4 ⟨t, la, lus, lss, o3, o4, o5, o6, o7, rfl, D4, t0, tb, hla, hl, lrc⟩
      refine ⟨(by show 2 ≤ sizeLine; omega), fun c1 hc1 => ?_⟩
      first | generalize hGc1 : upd _ c1 _ = H5 | (show Ends.nx _ _ (upd _ c1 _); generalize hGc1 : upd _ c1 _ = H5)
      have s5 := same_of_upd hc1 hGc1
      have e5 := at_of_upd hGc1
      refine ⟨(by show 1 ≤ sizeLine; omega), fun c2 hc2 => ?_⟩
      first | generalize hGc2 : upd _ c2 _ = H6 | (show Ends.nx _ _ (upd _ c2 _); generalize hGc2 : upd _ c2 _ = H6)
      have s6 := same_of_upd hc2 hGc2
      have e6 := at_of_upd hGc2
      refine ⟨99, rfl, by decide, by decide, fun D hDn => ?_⟩
      refine lc_range (lo := 0) (n := 99) (fun i H' => ∃ vs : List V, H' D = some (.lst vs) ∧ vs.length = i ∧ Paired (StAt K H') vs ((List.range i).map fun i => .make (lsS "pair") [i, i]) ∧ Same H6 H') ⟨[], upd_same, rfl, .nil, same_new same_rfl hDn⟩ ?_ ?_
      · rintro i H7 hi ⟨vs, e7, vl, hv, s7⟩
        have i99 : i < 99 := hi
        refine ⟨rfl, yes_if ?_⟩
        refine ⟨_, rfl, _, rfl, (by show 2 ≤ sizeLine; omega), fun p2 hp2 => ?_⟩
        first | generalize hGp2 : upd _ p2 _ = H8 | (show Ends.nx _ _ (upd _ p2 _); generalize hGp2 : upd _ p2 _ = H8)
        have s8 := same_of_upd hp2 hGp2
        have e8 := at_of_upd hGp2
        refine ⟨(by show 3 ≤ sizeLine; omega), fun p3 hp3 => ?_⟩
        first | generalize hGp3 : upd _ p3 _ = H9 | (show Ends.nx _ _ (upd _ p3 _); generalize hGp3 : upd _ p3 _ = H9)
        have s9 := same_of_upd hp3 hGp3
        have e9 := at_of_upd hGp3
        have s79 := same_tr s8 s9
        have e79 := s79 _ _ e7
        have kt9 : KTu K H9 (upd H9 D (.lst (vs ++ [.ref p3]))) := kt_lst e79
        refine ⟨_, e79, by omega, vs ++ [.ref p3], upd_same, by rw [List.length_append, vl]; rfl, ?_, same_off (same_tr s7 s79) hDn⟩
        rw [List.range_succ, List.map_append]
        rw [Int.zero_add] at e8
        exact paired_snoc (R := StAt K _) (b := .make (lsS "pair") [i, i]) ⟨p3, p2, rfl, kt9 _ _ (SqT.of e9), kt9 _ _ (SqT.of (s9 _ _ e8))⟩ (paired_mono (fun a b h => StAt.kt (KTu.tr (kt_same s79) kt9) h) hv)
      · rintro H7 ⟨vs, e7, vl, hv, s7⟩
        refine ⟨D, vs, rfl, .inl ⟨SqL.of e7, fun u hu => ?_⟩⟩
        first | generalize hGu : upd _ u _ = H8 | (show Ends.nx _ _ (upd _ u _); generalize hGu : upd _ u _ = H8)
        have s8 := same_of_upd hu hGu
        have e8 := at_of_upd hGu
        have vne : vs ≠ [] := fun z => by rw [z] at vl; cases vl
        refine ⟨c2, u, [.ref c1], vs, rfl, rfl, SqT.of (s8 _ _ (s7 _ _ e6)), SqT.of e8, by simp, by simp only [List.length_cons, List.length_nil]; omega, (fun z => absurd z vne), fun _ q hq => ?_⟩
        first | generalize hGq : upd _ q _ = H9 | (show Ends.nx _ _ (upd _ q _); generalize hGq : upd _ q _ = H9)
        have s9 := same_of_upd hq hGq
        have e9 := at_of_upd hGq
        have s69 := same_tr s7 (same_tr s8 s9)
        have s79 := same_tr s8 s9
        refine ⟨_, _, rfl, ?_⟩
        have hp : Paired (StAt K H9) ([.ref c1] ++ vs) (handS 99) := .cons ⟨c1, rfl, SqT.of (s69 _ _ (s6 _ _ e5))⟩ (paired_mono (fun a b h => StAt.kt (kt_same s79) h) hv)
        refine ⟨99, rfl, by decide, by decide, ?_⟩
        refine for_range (lo := 0) (n := 99) (fun i σ H' => ∃ o9 : Option V, σ = [some (.ref a), some (.ref dk), some (.ref la), o3, o4, o5, o6, some (.ref q), some (.int (2 ^ (i + 1) - 1)), o9] ∧ H' = H9) ⟨none, rfl, rfl⟩ ?_ ?_
        · rintro i σ H' hi ⟨o9, rfl, rfl⟩
          refine ⟨_, rfl, _, _, rfl, rfl, .inl ⟨by decide, by decide⟩, _, _, rfl, rfl, some (.int (0 + (i : Int))), ?_, rfl⟩
          have : (2 * (2 ^ (i + 1) - 1) + 1 : Int) = 2 ^ (i + 1 + 1) - 1 := by
            rw [Int.pow_succ (2 : Int) (i + 1)]
            omega
          show [_, _, _, _, _, _, _, _, some (V.int (2 * (2 ^ (i + 1) - 1) + 1)), _] = _
          rw [this]
        · rintro σ H' ⟨o9, rfl, rfl⟩
          refine ⟨_, rfl, q, _, handS 99, rfl, SqT.of e9, hp, hand_rc, fun HA sA => ⟨_, rfl, ite2 (fun z => absurd z (by decide)) (fun _ => ?_)⟩⟩
          refine ⟨_, rfl, q, _, handS 99, rfl, kt_same sA _ _ (SqT.of e9), paired_mono (fun a b h => StAt.kt (kt_same sA) h) hp, hand_rc, fun HB sB => ⟨_, rfl, rfl, _, rfl, ?_⟩⟩
          rw [hand_w]
          refine ite2 (fun z => absurd z (by decide +kernel)) (fun _ => ?_)
          refine ⟨(by show 2 ≤ sizeLine; omega), fun d1 hd1 => ?_⟩
          first | generalize hGd1 : upd _ d1 _ = HC | (show Ends.nx _ _ (upd _ d1 _); generalize hGd1 : upd _ d1 _ = HC)
          have sC := same_of_upd hd1 hGd1
          have eC := at_of_upd hGd1
          refine ⟨(by show 2 ≤ sizeLine; omega), fun d2 hd2 => ?_⟩
          first | generalize hGd2 : upd _ d2 _ = HD | (show Ends.nx _ _ (upd _ d2 _); generalize hGd2 : upd _ d2 _ = HD)
          have sD := same_of_upd hd2 hGd2
          have eD := at_of_upd hGd2
          refine ⟨(by show 2 ≤ sizeLine; omega), fun d3 hd3 => ?_⟩
          first | generalize hGd3 : upd _ d3 _ = HE | (show Ends.nx _ _ (upd _ d3 _); generalize hGd3 : upd _ d3 _ = HE)
          have sE := same_of_upd hd3 hGd3
          have eE := at_of_upd hGd3
          refine ⟨(by show 3 ≤ sizeLine; omega), fun d4 hd4 => ?_⟩
          first | generalize hGd4 : upd _ d4 _ = HF | (show Ends.nx _ _ (upd _ d4 _); generalize hGd4 : upd _ d4 _ = HF)
          have sF := same_of_upd hd4 hGd4
          have eF := at_of_upd hGd4
          refine ⟨(by show 3 ≤ sizeLine; omega), fun d5 hd5 => ?_⟩
          first | generalize hGd5 : upd _ d5 _ = HG | (show Ends.nx _ _ (upd _ d5 _); generalize hGd5 : upd _ d5 _ = HG)
          have sG := same_of_upd hd5 hGd5
          have eG := at_of_upd hGd5
          refine ⟨d5, _, endS, rfl, SqT.of eG, .cons ⟨d1, rfl, SqT.of (sG _ _ (sF _ _ (sE _ _ (sD _ _ eC))))⟩ (.cons ⟨d2, rfl, SqT.of (sG _ _ (sF _ _ (sE _ _ eD)))⟩ (.cons ⟨d4, d3, rfl, SqT.of (sG _ _ eF), SqT.of (sG _ _ (sF _ _ eE))⟩ .nil)), end_rc, fun HH sH => ⟨rfl, ?_⟩⟩
          rw [end_t, decide_eq_true rfl]
          exact k HH
end
end K15


set_option Elab.async false
set_option linter.all false
set_option maxRecDepth 100000
set_option maxHeartbeats 1000000
namespace K15
open PySem PySem.Spec PyProof.Rows L2 Mine TL StX SkE
/-! The defs that call themselves, at all depths. -/
section
variable {P : Program} {w : World} {K : PySem.W.Frag} {mg : Str → Option Value} {base : Heap}
theorem none_ok {k : Nat} {f : Addr} {fd : FuncData} {ps : List Str} : FnOk P w K mg base CX0 k f fd ps (fun _ _ _ _ => False) := ⟨fun _ _ _ _ z => z.elim, fun _ _ _ _ _ _ _ _ _ _ _ _ _ z => z.elim⟩
theorem inner_all {f : Addr} {fd : FuncData} (F : Fun K "_law_inner" "_law_inner" sInner f fd) (B : Bi mg) (b : Binds K fd ["_law_it"] []) (m : mg "_law_inner" = some (.ref f)) (kp : PySem.W.keepIn K (.ref f) = true) : ∀ n, FnOk P w K mg base CX0 (n + 1) f fd ["_law_it"] (spInner K n)
  | 0 => ok_Inner (sp' := fun _ _ _ _ => False) (fun m z => absurd z (by omega)) F B ⟨f, fd, none_ok, b, m, kp⟩
  | n + 1 => ok_Inner (sp' := spInner K n) (fun m z => by cases z; exact fun _ _ _ _ q => q) F B ⟨f, fd, inner_all F B b m kp n, b, m, kp⟩
theorem item_all {f : Addr} {fd : FuncData} (F : Fun K "_law_item" "_law_item" sItem f fd) (B : Bi mg) (u_draw : Use P w K mg base 1 "_law_draw" ["_law_deck_here", "_law_many"] spDraw) (u_pick : Use P w K mg base 2 "_law_pick" ["_law_deck_here", "_law_some"] (spPickA K)) (b : Binds K fd ["_law_deck_here", "_law_w", "_law_deep"] []) (m : mg "_law_item" = some (.ref f)) (kp : PySem.W.keepIn K (.ref f) = true) : ∀ n, FnOk P w K mg base CX0 (n + 3) f fd ["_law_deck_here", "_law_w", "_law_deep"] (spItem K n)
  | 0 => ok_Item (j := 2) (sp' := fun _ _ _ _ => False) (by omega) (fun m z => absurd z (by omega)) F B u_draw u_pick ⟨f, fd, none_ok, b, m, kp⟩
  | n + 1 => ok_Item (j := n + 3) (sp' := spItem K n) (by omega) (fun m z => by cases z; exact fun _ _ _ _ q => q) F B u_draw u_pick ⟨f, fd, item_all F B u_draw u_pick b m kp n, b, m, kp⟩
end
end K15


set_option Elab.async false
set_option linter.all false
set_option maxRecDepth 100000
set_option maxHeartbeats 4000000
/-! What the top has written, and the end. -/
namespace K15
open PySem PySem.Spec PyProof.Rows L2 Mine TL StX SkE
theorem sqK {K : PySem.W.Frag} {H : Hp} {a : Addr} {its : Array Value} {n : Nat} {sl : Array (Option Value)} {xs : List V} (l : K.lookup a = some ⟨.type "tuple", none, .seq its n, sl⟩) (v : Vals xs its.toList) (hz : its.size ≤ 16777216) : SqT K H a xs := .inr ⟨_, its, n, l, rfl, rfl, (by rw [sizeLine_eq]; exact hz), v⟩
theorem rI {i : Int} {t : PySem.Tok} : RelV (.int i) (.int i t) := ⟨t, rfl⟩
theorem rS {x : Str} {t : PySem.Tok} : RelV (.str x) (.str x t) := ⟨t, rfl⟩
section
variable {P : Program} {w : World} {K : PySem.W.Frag} {mg : Str → Option Value}
theorem all_mk {h : Heap} {fa : Addr}  (X : K.In h) (G : h.Ns mainGlobals mg) (hfa : mg "law" = some (.ref fa))
    {f_deck f_draw f_pick f_told f_need f_world f_item f_wants f_waysat f_inner f_shown f_worth f_opener f_steps f_width f_page f_right f_law f_word f_numin f_size f_rctext f_read f_named f_sttext f_stepin  : Addr}
    {od_deck an_deck od_draw an_draw od_pick an_pick od_told an_told od_need an_need od_world an_world od_item an_item od_wants an_wants od_waysat an_waysat od_inner an_inner od_shown an_shown od_worth an_worth od_opener an_opener od_steps an_steps od_width an_width od_page an_page od_right an_right od_law an_law od_word an_word od_numin an_numin od_size an_size od_rctext an_rctext od_read an_read od_named an_named od_sttext an_sttext od_stepin an_stepin : Option Addr}
    {sl_deck sl_draw sl_pick sl_told sl_need sl_world sl_item sl_wants sl_waysat sl_inner sl_shown sl_worth sl_opener sl_steps sl_width sl_page sl_right sl_law sl_word sl_numin sl_size sl_rctext sl_read sl_named sl_sttext sl_stepin : Array (Option Value)}
    {oc_deck kV_deck dc_deck pm_deck cd_deck ct_deck oc_draw kV_draw dc_draw pm_draw cd_draw ct_draw oc_pick kV_pick dc_pick pm_pick cd_pick ct_pick oc_told kV_told dc_told pm_told cd_told ct_told oc_need kV_need dc_need pm_need cd_need ct_need oc_world kV_world dc_world pm_world cd_world ct_world oc_item kV_item dc_item pm_item cd_item ct_item oc_wants kV_wants dc_wants pm_wants cd_wants ct_wants oc_waysat kV_waysat dc_waysat pm_waysat cd_waysat ct_waysat oc_inner kV_inner dc_inner pm_inner cd_inner ct_inner oc_shown kV_shown dc_shown pm_shown cd_shown ct_shown oc_worth kV_worth dc_worth pm_worth cd_worth ct_worth oc_opener kV_opener dc_opener pm_opener cd_opener ct_opener oc_steps kV_steps dc_steps pm_steps cd_steps ct_steps oc_width kV_width dc_width pm_width cd_width ct_width oc_page kV_page dc_page pm_page cd_page ct_page oc_right kV_right dc_right pm_right cd_right ct_right oc_law kV_law dc_law pm_law cd_law ct_law oc_word kV_word dc_word pm_word cd_word ct_word oc_numin kV_numin dc_numin pm_numin cd_numin ct_numin oc_size kV_size dc_size pm_size cd_size ct_size oc_rctext kV_rctext dc_rctext pm_rctext cd_rctext ct_rctext oc_read kV_read dc_read pm_read cd_read ct_read oc_named kV_named dc_named pm_named cd_named ct_named oc_sttext kV_sttext dc_sttext pm_sttext cd_sttext ct_sttext oc_stepin kV_stepin dc_stepin pm_stepin cd_stepin ct_stepin : Value}
    {t_longest t_mostn : PySem.Tok}
    (a_deck : PySem.W.nsIn K mainGlobals "_law_deck" = some (some (.ref f_deck)))
    (l_deck : K.lookup f_deck = some ⟨oc_deck, od_deck, .func (PySem.W.fnOf "_law_deck" "_law_deck" (defArgs sDeck) (defBody sDeck) (defScope sDeck) .none kV_deck dc_deck pm_deck an_deck cd_deck ct_deck), sl_deck⟩)
    (c_deck : PySem.W.codeIn K cd_deck "_law_deck" = true)
    (k_deck : PySem.W.keepIn K (.ref f_deck) = true)
    (a_draw : PySem.W.nsIn K mainGlobals "_law_draw" = some (some (.ref f_draw)))
    (l_draw : K.lookup f_draw = some ⟨oc_draw, od_draw, .func (PySem.W.fnOf "_law_draw" "_law_draw" (defArgs sDraw) (defBody sDraw) (defScope sDraw) .none kV_draw dc_draw pm_draw an_draw cd_draw ct_draw), sl_draw⟩)
    (c_draw : PySem.W.codeIn K cd_draw "_law_draw" = true)
    (k_draw : PySem.W.keepIn K (.ref f_draw) = true)
    (a_pick : PySem.W.nsIn K mainGlobals "_law_pick" = some (some (.ref f_pick)))
    (l_pick : K.lookup f_pick = some ⟨oc_pick, od_pick, .func (PySem.W.fnOf "_law_pick" "_law_pick" (defArgs sPick) (defBody sPick) (defScope sPick) .none kV_pick dc_pick pm_pick an_pick cd_pick ct_pick), sl_pick⟩)
    (c_pick : PySem.W.codeIn K cd_pick "_law_pick" = true)
    (k_pick : PySem.W.keepIn K (.ref f_pick) = true)
    (a_told : PySem.W.nsIn K mainGlobals "_law_told_book" = some (some (.ref f_told)))
    (l_told : K.lookup f_told = some ⟨oc_told, od_told, .func (PySem.W.fnOf "_law_told_book" "_law_told_book" (defArgs sTold) (defBody sTold) (defScope sTold) .none kV_told dc_told pm_told an_told cd_told ct_told), sl_told⟩)
    (c_told : PySem.W.codeIn K cd_told "_law_told_book" = true)
    (k_told : PySem.W.keepIn K (.ref f_told) = true)
    (a_need : PySem.W.nsIn K mainGlobals "_law_need" = some (some (.ref f_need)))
    (l_need : K.lookup f_need = some ⟨oc_need, od_need, .func (PySem.W.fnOf "_law_need" "_law_need" (defArgs sNeedW) (defBody sNeedW) (defScope sNeedW) .none kV_need dc_need pm_need an_need cd_need ct_need), sl_need⟩)
    (c_need : PySem.W.codeIn K cd_need "_law_need" = true)
    (k_need : PySem.W.keepIn K (.ref f_need) = true)
    (a_world : PySem.W.nsIn K mainGlobals "_law_world" = some (some (.ref f_world)))
    (l_world : K.lookup f_world = some ⟨oc_world, od_world, .func (PySem.W.fnOf "_law_world" "_law_world" (defArgs sWorld) (defBody sWorld) (defScope sWorld) .none kV_world dc_world pm_world an_world cd_world ct_world), sl_world⟩)
    (c_world : PySem.W.codeIn K cd_world "_law_world" = true)
    (k_world : PySem.W.keepIn K (.ref f_world) = true)
    (a_item : PySem.W.nsIn K mainGlobals "_law_item" = some (some (.ref f_item)))
    (l_item : K.lookup f_item = some ⟨oc_item, od_item, .func (PySem.W.fnOf "_law_item" "_law_item" (defArgs sItem) (defBody sItem) (defScope sItem) .none kV_item dc_item pm_item an_item cd_item ct_item), sl_item⟩)
    (c_item : PySem.W.codeIn K cd_item "_law_item" = true)
    (k_item : PySem.W.keepIn K (.ref f_item) = true)
    (a_wants : PySem.W.nsIn K mainGlobals "_law_wants" = some (some (.ref f_wants)))
    (l_wants : K.lookup f_wants = some ⟨oc_wants, od_wants, .func (PySem.W.fnOf "_law_wants" "_law_wants" (defArgs sWants) (defBody sWants) (defScope sWants) .none kV_wants dc_wants pm_wants an_wants cd_wants ct_wants), sl_wants⟩)
    (c_wants : PySem.W.codeIn K cd_wants "_law_wants" = true)
    (k_wants : PySem.W.keepIn K (.ref f_wants) = true)
    (a_waysat : PySem.W.nsIn K mainGlobals "_law_ways_at" = some (some (.ref f_waysat)))
    (l_waysat : K.lookup f_waysat = some ⟨oc_waysat, od_waysat, .func (PySem.W.fnOf "_law_ways_at" "_law_ways_at" (defArgs sWaysAt) (defBody sWaysAt) (defScope sWaysAt) .none kV_waysat dc_waysat pm_waysat an_waysat cd_waysat ct_waysat), sl_waysat⟩)
    (c_waysat : PySem.W.codeIn K cd_waysat "_law_ways_at" = true)
    (k_waysat : PySem.W.keepIn K (.ref f_waysat) = true)
    (a_inner : PySem.W.nsIn K mainGlobals "_law_inner" = some (some (.ref f_inner)))
    (l_inner : K.lookup f_inner = some ⟨oc_inner, od_inner, .func (PySem.W.fnOf "_law_inner" "_law_inner" (defArgs sInner) (defBody sInner) (defScope sInner) .none kV_inner dc_inner pm_inner an_inner cd_inner ct_inner), sl_inner⟩)
    (c_inner : PySem.W.codeIn K cd_inner "_law_inner" = true)
    (k_inner : PySem.W.keepIn K (.ref f_inner) = true)
    (a_shown : PySem.W.nsIn K mainGlobals "_law_shown" = some (some (.ref f_shown)))
    (l_shown : K.lookup f_shown = some ⟨oc_shown, od_shown, .func (PySem.W.fnOf "_law_shown" "_law_shown" (defArgs sShown) (defBody sShown) (defScope sShown) .none kV_shown dc_shown pm_shown an_shown cd_shown ct_shown), sl_shown⟩)
    (c_shown : PySem.W.codeIn K cd_shown "_law_shown" = true)
    (k_shown : PySem.W.keepIn K (.ref f_shown) = true)
    (a_worth : PySem.W.nsIn K mainGlobals "_law_worth" = some (some (.ref f_worth)))
    (l_worth : K.lookup f_worth = some ⟨oc_worth, od_worth, .func (PySem.W.fnOf "_law_worth" "_law_worth" (defArgs sWorth) (defBody sWorth) (defScope sWorth) .none kV_worth dc_worth pm_worth an_worth cd_worth ct_worth), sl_worth⟩)
    (c_worth : PySem.W.codeIn K cd_worth "_law_worth" = true)
    (k_worth : PySem.W.keepIn K (.ref f_worth) = true)
    (a_opener : PySem.W.nsIn K mainGlobals "_law_opener" = some (some (.ref f_opener)))
    (l_opener : K.lookup f_opener = some ⟨oc_opener, od_opener, .func (PySem.W.fnOf "_law_opener" "_law_opener" (defArgs sOpener) (defBody sOpener) (defScope sOpener) .none kV_opener dc_opener pm_opener an_opener cd_opener ct_opener), sl_opener⟩)
    (c_opener : PySem.W.codeIn K cd_opener "_law_opener" = true)
    (k_opener : PySem.W.keepIn K (.ref f_opener) = true)
    (a_steps : PySem.W.nsIn K mainGlobals "_law_steps" = some (some (.ref f_steps)))
    (l_steps : K.lookup f_steps = some ⟨oc_steps, od_steps, .func (PySem.W.fnOf "_law_steps" "_law_steps" (defArgs sSteps) (defBody sSteps) (defScope sSteps) .none kV_steps dc_steps pm_steps an_steps cd_steps ct_steps), sl_steps⟩)
    (c_steps : PySem.W.codeIn K cd_steps "_law_steps" = true)
    (k_steps : PySem.W.keepIn K (.ref f_steps) = true)
    (a_width : PySem.W.nsIn K mainGlobals "_law_width" = some (some (.ref f_width)))
    (l_width : K.lookup f_width = some ⟨oc_width, od_width, .func (PySem.W.fnOf "_law_width" "_law_width" (defArgs sWidth) (defBody sWidth) (defScope sWidth) .none kV_width dc_width pm_width an_width cd_width ct_width), sl_width⟩)
    (c_width : PySem.W.codeIn K cd_width "_law_width" = true)
    (k_width : PySem.W.keepIn K (.ref f_width) = true)
    (a_page : PySem.W.nsIn K mainGlobals "_law_page" = some (some (.ref f_page)))
    (l_page : K.lookup f_page = some ⟨oc_page, od_page, .func (PySem.W.fnOf "_law_page" "_law_page" (defArgs sPage) (defBody sPage) (defScope sPage) .none kV_page dc_page pm_page an_page cd_page ct_page), sl_page⟩)
    (c_page : PySem.W.codeIn K cd_page "_law_page" = true)
    (k_page : PySem.W.keepIn K (.ref f_page) = true)
    (a_right : PySem.W.nsIn K mainGlobals "_law_right" = some (some (.ref f_right)))
    (l_right : K.lookup f_right = some ⟨oc_right, od_right, .func (PySem.W.fnOf "_law_right" "_law_right" (defArgs sRight) (defBody sRight) (defScope sRight) .none kV_right dc_right pm_right an_right cd_right ct_right), sl_right⟩)
    (c_right : PySem.W.codeIn K cd_right "_law_right" = true)
    (k_right : PySem.W.keepIn K (.ref f_right) = true)
    (a_law : PySem.W.nsIn K mainGlobals "law" = some (some (.ref f_law)))
    (l_law : K.lookup f_law = some ⟨oc_law, od_law, .func (PySem.W.fnOf "law" "law" (defArgs sLaw) (defBody sLaw) (defScope sLaw) .none kV_law dc_law pm_law an_law cd_law ct_law), sl_law⟩)
    (c_law : PySem.W.codeIn K cd_law "law" = true)
    (k_law : PySem.W.keepIn K (.ref f_law) = true)
    (a_word : PySem.W.nsIn K mainGlobals "is_word" = some (some (.ref f_word)))
    (l_word : K.lookup f_word = some ⟨oc_word, od_word, .func (PySem.W.fnOf "is_word" "is_word" (defArgs sWord8) (defBody sWord8) (defScope sWord8) .none kV_word dc_word pm_word an_word cd_word ct_word), sl_word⟩)
    (c_word : PySem.W.codeIn K cd_word "is_word" = true)
    (k_word : PySem.W.keepIn K (.ref f_word) = true)
    (a_numin : PySem.W.nsIn K mainGlobals "number_in" = some (some (.ref f_numin)))
    (l_numin : K.lookup f_numin = some ⟨oc_numin, od_numin, .func (PySem.W.fnOf "number_in" "number_in" (defArgs sNumIn) (defBody sNumIn) (defScope sNumIn) .none kV_numin dc_numin pm_numin an_numin cd_numin ct_numin), sl_numin⟩)
    (c_numin : PySem.W.codeIn K cd_numin "number_in" = true)
    (k_numin : PySem.W.keepIn K (.ref f_numin) = true)
    (a_size : PySem.W.nsIn K mainGlobals "written_size" = some (some (.ref f_size)))
    (l_size : K.lookup f_size = some ⟨oc_size, od_size, .func (PySem.W.fnOf "written_size" "written_size" (defArgs sSize) (defBody sSize) (defScope sSize) .none kV_size dc_size pm_size an_size cd_size ct_size), sl_size⟩)
    (c_size : PySem.W.codeIn K cd_size "written_size" = true)
    (k_size : PySem.W.keepIn K (.ref f_size) = true)
    (a_rctext : PySem.W.nsIn K mainGlobals "recipe_text" = some (some (.ref f_rctext)))
    (l_rctext : K.lookup f_rctext = some ⟨oc_rctext, od_rctext, .func (PySem.W.fnOf "recipe_text" "recipe_text" (defArgs sRcText) (defBody sRcText) (defScope sRcText) .none kV_rctext dc_rctext pm_rctext an_rctext cd_rctext ct_rctext), sl_rctext⟩)
    (c_rctext : PySem.W.codeIn K cd_rctext "recipe_text" = true)
    (k_rctext : PySem.W.keepIn K (.ref f_rctext) = true)
    (a_read : PySem.W.nsIn K mainGlobals "read_recipe" = some (some (.ref f_read)))
    (l_read : K.lookup f_read = some ⟨oc_read, od_read, .func (PySem.W.fnOf "read_recipe" "read_recipe" (defArgs sRead) (defBody sRead) (defScope sRead) .none kV_read dc_read pm_read an_read cd_read ct_read), sl_read⟩)
    (c_read : PySem.W.codeIn K cd_read "read_recipe" = true)
    (k_read : PySem.W.keepIn K (.ref f_read) = true)
    (a_named : PySem.W.nsIn K mainGlobals "named_in" = some (some (.ref f_named)))
    (l_named : K.lookup f_named = some ⟨oc_named, od_named, .func (PySem.W.fnOf "named_in" "named_in" (defArgs sNamed) (defBody sNamed) (defScope sNamed) .none kV_named dc_named pm_named an_named cd_named ct_named), sl_named⟩)
    (c_named : PySem.W.codeIn K cd_named "named_in" = true)
    (k_named : PySem.W.keepIn K (.ref f_named) = true)
    (a_sttext : PySem.W.nsIn K mainGlobals "_step_text" = some (some (.ref f_sttext)))
    (l_sttext : K.lookup f_sttext = some ⟨oc_sttext, od_sttext, .func (PySem.W.fnOf "_step_text" "_step_text" (defArgs sStText) (defBody sStText) (defScope sStText) .none kV_sttext dc_sttext pm_sttext an_sttext cd_sttext ct_sttext), sl_sttext⟩)
    (c_sttext : PySem.W.codeIn K cd_sttext "_step_text" = true)
    (k_sttext : PySem.W.keepIn K (.ref f_sttext) = true)
    (a_stepin : PySem.W.nsIn K mainGlobals "_step_in" = some (some (.ref f_stepin)))
    (l_stepin : K.lookup f_stepin = some ⟨oc_stepin, od_stepin, .func (PySem.W.fnOf "_step_in" "_step_in" (defArgs sStepIn) (defBody sStepIn) (defScope sStepIn) .none kV_stepin dc_stepin pm_stepin an_stepin cd_stepin ct_stepin), sl_stepin⟩)
    (c_stepin : PySem.W.codeIn K cd_stepin "_step_in" = true)
    (k_stepin : PySem.W.keepIn K (.ref f_stepin) = true)
    (g_longest : PySem.W.nsIn K mainGlobals "LONGEST" = some (some (.int 8 t_longest)))
    (g_mostn : PySem.W.nsIn K mainGlobals "MOST_NUMBERS" = some (some (.int 3 t_mostn)))
    (z_len : PySem.W.nsIn K mainGlobals "len" = some none)
    (z_list : PySem.W.nsIn K mainGlobals "list" = some none)
    (z_tuple : PySem.W.nsIn K mainGlobals "tuple" = some none)
    (z_range : PySem.W.nsIn K mainGlobals "range" = some none)
    (z_isinstance : PySem.W.nsIn K mainGlobals "isinstance" = some none)
    (z_str : PySem.W.nsIn K mainGlobals "str" = some none)
    (z_int : PySem.W.nsIn K mainGlobals "int" = some none)
    (z_bool : PySem.W.nsIn K mainGlobals "bool" = some none)
    (z_all : PySem.W.nsIn K mainGlobals "all" = some none)
    (z_any : PySem.W.nsIn K mainGlobals "any" = some none)
    (z_zip : PySem.W.nsIn K mainGlobals "zip" = some none)
    (z_dict : PySem.W.nsIn K mainGlobals "dict" = some none)
    (z_set : PySem.W.nsIn K mainGlobals "set" = some none)
    (z_sorted : PySem.W.nsIn K mainGlobals "sorted" = some none)
    (z_reversed : PySem.W.nsIn K mainGlobals "reversed" = some none)
    (z_enumerate : PySem.W.nsIn K mainGlobals "enumerate" = some none)
    (z_repr : PySem.W.nsIn K mainGlobals "repr" = some none)
    (z_sum : PySem.W.nsIn K mainGlobals "sum" = some none)
    (z_min : PySem.W.nsIn K mainGlobals "min" = some none)
    (z_max : PySem.W.nsIn K mainGlobals "max" = some none)
     :
    ∃ fd : FuncData, (∀ (s : Shared) (v : Value), BindsTo s fd ⟨[v], []⟩ [("_law_script", v)]) ∧ ∀ base : Heap, K.In base → base.Ns mainGlobals mg → FnG P w K mg base 63 fa fd ["_law_script"] (spLaw K) := by
  have e := hfa.symm.trans (PySem.W.mg_of X G a_law)
  cases e
  have F_deck := fun_mk (st := sDeck) l_deck c_deck k_deck
  have F_draw := fun_mk (st := sDraw) l_draw c_draw k_draw
  have F_pick := fun_mk (st := sPick) l_pick c_pick k_pick
  have F_told := fun_mk (st := sTold) l_told c_told k_told
  have F_need := fun_mk (st := sNeedW) l_need c_need k_need
  have F_world := fun_mk (st := sWorld) l_world c_world k_world
  have F_item := fun_mk (st := sItem) l_item c_item k_item
  have F_wants := fun_mk (st := sWants) l_wants c_wants k_wants
  have F_waysat := fun_mk (st := sWaysAt) l_waysat c_waysat k_waysat
  have F_inner := fun_mk (st := sInner) l_inner c_inner k_inner
  have F_shown := fun_mk (st := sShown) l_shown c_shown k_shown
  have F_worth := fun_mk (st := sWorth) l_worth c_worth k_worth
  have F_opener := fun_mk (st := sOpener) l_opener c_opener k_opener
  have F_steps := fun_mk (st := sSteps) l_steps c_steps k_steps
  have F_width := fun_mk (st := sWidth) l_width c_width k_width
  have F_page := fun_mk (st := sPage) l_page c_page k_page
  have F_right := fun_mk (st := sRight) l_right c_right k_right
  have F_law := fun_mk (st := sLaw) l_law c_law k_law
  have F_word := fun_mk (st := sWord8) l_word c_word k_word
  have F_numin := fun_mk (st := sNumIn) l_numin c_numin k_numin
  have F_size := fun_mk (st := sSize) l_size c_size k_size
  have F_rctext := fun_mk (st := sRcText) l_rctext c_rctext k_rctext
  have F_read := fun_mk (st := sRead) l_read c_read k_read
  have F_named := fun_mk (st := sNamed) l_named c_named k_named
  have F_sttext := fun_mk (st := sStText) l_sttext c_sttext k_sttext
  have F_stepin := fun_mk (st := sStepIn) l_stepin c_stepin k_stepin
  have b_deck := F_deck.binds (ps := ["_law_script"]) fun _ _ _ _ _ _ us hl => match us, hl with | [_], _ => rfl
  have b_draw := F_draw.binds (ps := ["_law_deck_here", "_law_many"]) fun _ _ _ _ _ _ us hl => match us, hl with | [_, _], _ => rfl
  have b_pick := F_pick.binds (ps := ["_law_deck_here", "_law_some"]) fun _ _ _ _ _ _ us hl => match us, hl with | [_, _], _ => rfl
  have b_told := F_told.binds (ps := []) fun _ _ _ _ _ _ us hl => match us, hl with | [], _ => rfl
  have b_need := F_need.binds (ps := ["_law_deck_here", "_law_sorts", "_law_many"]) fun _ _ _ _ _ _ us hl => match us, hl with | [_, _, _], _ => rfl
  have b_world := F_world.binds (ps := ["_law_deck_here"]) fun _ _ _ _ _ _ us hl => match us, hl with | [_], _ => rfl
  have b_item := F_item.binds (ps := ["_law_deck_here", "_law_w", "_law_deep"]) fun _ _ _ _ _ _ us hl => match us, hl with | [_, _, _], _ => rfl
  have b_wants := F_wants.binds (ps := ["_law_w", "_law_way", "_law_it"]) fun _ _ _ _ _ _ us hl => match us, hl with | [_, _, _], _ => rfl
  have b_waysat := F_waysat.binds (ps := ["_law_w", "_law_it"]) fun _ _ _ _ _ _ us hl => match us, hl with | [_, _], _ => rfl
  have b_inner := F_inner.binds (ps := ["_law_it"]) fun _ _ _ _ _ _ us hl => match us, hl with | [_], _ => rfl
  have b_shown := F_shown.binds (ps := ["_law_deck_here", "_law_w", "_law_many"]) fun _ _ _ _ _ _ us hl => match us, hl with | [_, _, _], _ => rfl
  have b_worth := F_worth.binds (ps := ["_law_w", "_law_items", "_law_worths_here", "_law_step"]) fun _ _ _ _ _ _ us hl => match us, hl with | [_, _, _, _], _ => rfl
  have b_opener := F_opener.binds (ps := ["_law_deck_here", "_law_w", "_law_worths_here"]) fun _ _ _ _ _ _ us hl => match us, hl with | [_, _, _], _ => rfl
  have b_steps := F_steps.binds (ps := ["_law_deck_here", "_law_w", "_law_items", "_law_many"]) fun _ _ _ _ _ _ us hl => match us, hl with | [_, _, _, _], _ => rfl
  have b_width := F_width.binds (ps := ["_law_steps_here"]) fun _ _ _ _ _ _ us hl => match us, hl with | [_], _ => rfl
  have b_page := F_page.binds (ps := ["_law_steps_here"]) fun _ _ _ _ _ _ us hl => match us, hl with | [_], _ => rfl
  have b_right := F_right.binds (ps := ["_law_steps_here"]) fun _ _ _ _ _ _ us hl => match us, hl with | [_], _ => rfl
  have b_word := F_word.binds (ps := ["thing"]) fun _ _ _ _ _ _ us hl => match us, hl with | [_], _ => rfl
  have b_numin := F_numin.binds (ps := ["word"]) fun _ _ _ _ _ _ us hl => match us, hl with | [_], _ => rfl
  have b_size := F_size.binds (ps := ["recipe"]) fun _ _ _ _ _ _ us hl => match us, hl with | [_], _ => rfl
  have b_rctext := F_rctext.binds (ps := ["recipe"]) fun _ _ _ _ _ _ us hl => match us, hl with | [_], _ => rfl
  have b_read := F_read.binds (ps := ["text"]) fun _ _ _ _ _ _ us hl => match us, hl with | [_], _ => rfl
  have b_named := F_named.binds (ps := ["step"]) fun _ _ _ _ _ _ us hl => match us, hl with | [_], _ => rfl
  have b_sttext := F_sttext.binds (ps := ["step"]) fun _ _ _ _ _ _ us hl => match us, hl with | [_], _ => rfl
  have b_stepin := F_stepin.binds (ps := ["words", "at"]) fun _ _ _ _ _ _ us hl => match us, hl with | [_, _], _ => rfl
  have B : Bi mg := ⟨(PySem.W.mg_none_of X G z_len), (PySem.W.mg_none_of X G z_list), (PySem.W.mg_none_of X G z_tuple), (PySem.W.mg_none_of X G z_range), (PySem.W.mg_none_of X G z_isinstance), (PySem.W.mg_none_of X G z_str), (PySem.W.mg_none_of X G z_int), (PySem.W.mg_none_of X G z_bool), (PySem.W.mg_none_of X G z_all), (PySem.W.mg_none_of X G z_any), (PySem.W.mg_none_of X G z_zip), (PySem.W.mg_none_of X G z_dict), (PySem.W.mg_none_of X G z_set), (PySem.W.mg_none_of X G z_sorted), (PySem.W.mg_none_of X G z_reversed), (PySem.W.mg_none_of X G z_enumerate), (PySem.W.mg_none_of X G z_repr), (PySem.W.mg_none_of X G z_sum), (PySem.W.mg_none_of X G z_min), (PySem.W.mg_none_of X G z_max)⟩
  have TD : TxtD mg := ⟨B.int, B.list⟩
  have TP : TxtP K mg f_draw f_pick := { toTxtD := TD, len := B.len, gD := (PySem.W.mg_of X G a_draw), kD := k_draw, gP := (PySem.W.mg_of X G a_pick), kP := k_pick }
  have TDP : TxtDP K mg f_draw f_pick := ⟨(PySem.W.mg_of X G a_draw), k_draw, (PySem.W.mg_of X G a_pick), k_pick⟩
  have TWo : TxtWo K mg f_draw f_pick f_need f_told := { toTxtDP := TDP, len := B.len, range := B.range, tuple := B.tuple, sorted := B.sorted, n := (PySem.W.mg_of X G a_need), kn := k_need, t := (PySem.W.mg_of X G a_told), kt := k_told }
  refine ⟨(PySem.W.fnOf "law" "law" (defArgs sLaw) (defBody sLaw) (defScope sLaw) .none kV_law dc_law pm_law an_law cd_law ct_law), fun s v => .of_eq rfl, fun base _ _ => ?_⟩
  have GD : FnOk P w K mg base CX0 1 f_draw _ ["_law_deck_here", "_law_many"] spDraw := ok_draw F_draw TD
  have GP := ok_pick F_pick GD b_draw TP
  have GPT := ok_pickT F_pick GD b_draw TP
  have GT := ok_told (P := P) (w := w) (base := base) F_told ⟨B.tuple⟩
  have GN := ok_needW F_need GD b_draw GP b_pick TDP
  have U_draw : Use P w K mg base 1 "_law_draw" ["_law_deck_here", "_law_many"] spDraw := ⟨_, _, GD, b_draw, (PySem.W.mg_of X G a_draw), k_draw⟩
  have U_pick : Use P w K mg base 2 "_law_pick" ["_law_deck_here", "_law_some"] (spPickA K) := ⟨_, _, FnOk_or GP GPT, b_pick, (PySem.W.mg_of X G a_pick), k_pick⟩
  have U_deck : Use P w K mg base 1 "_law_deck" ["_law_script"] (spDeck K) := ⟨_, _, ok_deck F_deck TD, b_deck, (PySem.W.mg_of X G a_deck), k_deck⟩
  have U_world : Use P w K mg base 4 "_law_world" ["_law_deck_here"] (spWorld K) := ⟨_, _, ok_world F_world GD b_draw GP b_pick GN b_need GT b_told TWo, b_world, (PySem.W.mg_of X G a_world), k_world⟩
  have U_item : Use P w K mg base 5 "_law_item" ["_law_deck_here", "_law_w", "_law_deep"] (spItem K 2) := ⟨_, _, item_all F_item B U_draw U_pick b_item (PySem.W.mg_of X G a_item) k_item 2, b_item, (PySem.W.mg_of X G a_item), k_item⟩
  have U_inner : Use P w K mg base 61 "_law_inner" ["_law_it"] (spInner K 60) := ⟨_, _, inner_all F_inner B b_inner (PySem.W.mg_of X G a_inner) k_inner 60, b_inner, (PySem.W.mg_of X G a_inner), k_inner⟩
  have U_wants : Use P w K mg base 1 "_law_wants" ["_law_w", "_law_way", "_law_it"] (spWants K) := ⟨_, _, ok_Wants F_wants B, b_wants, (PySem.W.mg_of X G a_wants), k_wants⟩
  have U_waysat : Use P w K mg base 1 "_law_ways_at" ["_law_w", "_law_it"] (spWays K) := ⟨_, _, ok_WaysAt F_waysat B, b_waysat, (PySem.W.mg_of X G a_waysat), k_waysat⟩
  have U_shown : Use P w K mg base 62 "_law_shown" ["_law_deck_here", "_law_w", "_law_many"] (spShown K) := ⟨_, _, ok_Shown F_shown B U_draw U_pick U_item U_inner U_wants U_waysat, b_shown, (PySem.W.mg_of X G a_shown), k_shown⟩
  have U_worth : Use P w K mg base 2 "_law_worth" ["_law_w", "_law_items", "_law_worths_here", "_law_step"] (spWorth K) := ⟨_, _, ok_Worth F_worth B U_wants, b_worth, (PySem.W.mg_of X G a_worth), k_worth⟩
  have U_opener : Use P w K mg base 3 "_law_opener" ["_law_deck_here", "_law_w", "_law_worths_here"] (spOpener K) := ⟨_, _, ok_Opener F_opener B U_draw U_pick U_wants U_waysat, b_opener, (PySem.W.mg_of X G a_opener), k_opener⟩
  have U_steps : Use P w K mg base 62 "_law_steps" ["_law_deck_here", "_law_w", "_law_items", "_law_many"] (spSteps K) := ⟨_, _, ok_Steps F_steps B U_draw U_pick U_worth U_inner U_opener, b_steps, (PySem.W.mg_of X G a_steps), k_steps⟩
  have U_word : Use P w K mg base 1 "is_word" ["thing"] (spIs K isW) := ⟨_, _, ok_Word8 F_word B ⟨_, PySem.W.mg_of X G g_longest, rI⟩, b_word, (PySem.W.mg_of X G a_word), k_word⟩
  have U_numin : Use P w K mg base 1 "number_in" ["word"] spNumIn := ⟨_, _, ok_NumIn (K := K) F_numin B, b_numin, (PySem.W.mg_of X G a_numin), k_numin⟩
  have U_named : Use P w K mg base 1 "named_in" ["step"] (spNamed K) := ⟨_, _, ok_Named F_named B, b_named, (PySem.W.mg_of X G a_named), k_named⟩
  have U_sttext : Use P w K mg base 2 "_step_text" ["step"] (spStText K) := ⟨_, _, ok_StText F_sttext B U_named, b_sttext, (PySem.W.mg_of X G a_sttext), k_sttext⟩
  have V_size : UseK P w K mg base 2 "written_size" ["recipe"] (spSize K) := ⟨_, _, ok_Size F_size B U_named, b_size, (PySem.W.mg_of X G a_size), k_size, fun s ws h => match ws, h with | [_], _ => .of_eq rfl⟩
  have V_rctext : UseK P w K mg base 3 "recipe_text" ["recipe"] (spRcText K) := ⟨_, _, ok_RcText F_rctext B U_sttext, b_rctext, (PySem.W.mg_of X G a_rctext), k_rctext, fun s ws h => match ws, h with | [_], _ => .of_eq rfl⟩
  have U_stepin : Use P w K mg base 2 "_step_in" ["words", "at"] (spStepIn K) := ⟨_, _, ok_StepIn F_stepin B U_word U_numin ⟨_, PySem.W.mg_of X G g_mostn, rI⟩, b_stepin, (PySem.W.mg_of X G a_stepin), k_stepin⟩
  have V_read : UseK P w K mg base 3 "read_recipe" ["text"] (spRead K) := ⟨_, _, ok_Read F_read B U_stepin, b_read, (PySem.W.mg_of X G a_read), k_read, fun s ws h => match ws, h with | [_], _ => .of_eq rfl⟩
  have U_width : Use P w K mg base 1 "_law_width" ["_law_steps_here"] (spSize K) := ⟨_, _, ok_Width F_width B, b_width, (PySem.W.mg_of X G a_width), k_width⟩
  have U_page : Use P w K mg base 1 "_law_page" ["_law_steps_here"] (spRcText K) := ⟨_, _, ok_Page F_page B, b_page, (PySem.W.mg_of X G a_page), k_page⟩
  have U_right : UseG P w K mg base 4 "_law_right" ["_law_steps_here"] (spRight K) := ⟨_, _, ok_Right F_right B U_width U_page V_size V_rctext V_read, b_right, (PySem.W.mg_of X G a_right), k_right⟩
  exact ok_Law F_law B U_deck U_world U_shown U_steps V_rctext.use V_size.use U_right
end
end K15

open PySem PySem.W PyProof.Rows
set_option Elab.async false
set_option maxRecDepth 100000 in
set_option maxHeartbeats 0 in
theorem PySem.Challenge.cw_sealedalike_k15_written_sizes_and_texts_holds : PySem.Challenge.rw_sealedalike_k15_written_sizes_and_texts.Holds := by
  w_on; o_law; k_head; (case hw => w_witness2)
  k_fill
  refine Mine.walkG (l := PySem.Challenge.rw_sealedalike_k15_written_sizes_and_texts) (k := 63) (n := 63) (x := "_law_script") (sp := K15.spLaw) rfl (by decide) rfl ⟨rfl, by decide, by decide⟩ (fun w h Y => PySem.W.kIn_of Y) ?F (fun K H a ns hl _ hS => ⟨a, ns, rfl, hS, hl, fun _ => rfl⟩)
  case F =>
    intro w mg fa h KX G hmg
    refine' K15.all_mk KX G hmg ?q9a_deck ?q9l_deck ?q9c_deck ?q9k_deck ?q9a_draw ?q9l_draw ?q9c_draw ?q9k_draw ?q9a_pick ?q9l_pick ?q9c_pick ?q9k_pick ?q9a_told ?q9l_told ?q9c_told ?q9k_told ?q9a_need ?q9l_need ?q9c_need ?q9k_need ?q9a_world ?q9l_world ?q9c_world ?q9k_world ?q9a_item ?q9l_item ?q9c_item ?q9k_item ?q9a_wants ?q9l_wants ?q9c_wants ?q9k_wants ?q9a_waysat ?q9l_waysat ?q9c_waysat ?q9k_waysat ?q9a_inner ?q9l_inner ?q9c_inner ?q9k_inner ?q9a_shown ?q9l_shown ?q9c_shown ?q9k_shown ?q9a_worth ?q9l_worth ?q9c_worth ?q9k_worth ?q9a_opener ?q9l_opener ?q9c_opener ?q9k_opener ?q9a_steps ?q9l_steps ?q9c_steps ?q9k_steps ?q9a_width ?q9l_width ?q9c_width ?q9k_width ?q9a_page ?q9l_page ?q9c_page ?q9k_page ?q9a_right ?q9l_right ?q9c_right ?q9k_right ?q9a_law ?q9l_law ?q9c_law ?q9k_law ?q9a_word ?q9l_word ?q9c_word ?q9k_word ?q9a_numin ?q9l_numin ?q9c_numin ?q9k_numin ?q9a_size ?q9l_size ?q9c_size ?q9k_size ?q9a_rctext ?q9l_rctext ?q9c_rctext ?q9k_rctext ?q9a_read ?q9l_read ?q9c_read ?q9k_read ?q9a_named ?q9l_named ?q9c_named ?q9k_named ?q9a_sttext ?q9l_sttext ?q9c_sttext ?q9k_sttext ?q9a_stepin ?q9l_stepin ?q9c_stepin ?q9k_stepin ?q9g_longest ?q9g_mostn ?q9z_len ?q9z_list ?q9z_tuple ?q9z_range ?q9z_isinstance ?q9z_str ?q9z_int ?q9z_bool ?q9z_all ?q9z_any ?q9z_zip ?q9z_dict ?q9z_set ?q9z_sorted ?q9z_reversed ?q9z_enumerate ?q9z_repr ?q9z_sum ?q9z_min ?q9z_max 
    (case q9a_deck => k_is)
    (case q9l_deck => k_is)
    (case q9c_deck => k_is)
    (case q9k_deck => k_is)
    (case q9a_draw => k_is)
    (case q9l_draw => k_is)
    (case q9c_draw => k_is)
    (case q9k_draw => k_is)
    (case q9a_pick => k_is)
    (case q9l_pick => k_is)
    (case q9c_pick => k_is)
    (case q9k_pick => k_is)
    (case q9a_told => k_is)
    (case q9l_told => k_is)
    (case q9c_told => k_is)
    (case q9k_told => k_is)
    (case q9a_need => k_is)
    (case q9l_need => k_is)
    (case q9c_need => k_is)
    (case q9k_need => k_is)
    (case q9a_world => k_is)
    (case q9l_world => k_is)
    (case q9c_world => k_is)
    (case q9k_world => k_is)
    (case q9a_item => k_is)
    (case q9l_item => k_is)
    (case q9c_item => k_is)
    (case q9k_item => k_is)
    (case q9a_wants => k_is)
    (case q9l_wants => k_is)
    (case q9c_wants => k_is)
    (case q9k_wants => k_is)
    (case q9a_waysat => k_is)
    (case q9l_waysat => k_is)
    (case q9c_waysat => k_is)
    (case q9k_waysat => k_is)
    (case q9a_inner => k_is)
    (case q9l_inner => k_is)
    (case q9c_inner => k_is)
    (case q9k_inner => k_is)
    (case q9a_shown => k_is)
    (case q9l_shown => k_is)
    (case q9c_shown => k_is)
    (case q9k_shown => k_is)
    (case q9a_worth => k_is)
    (case q9l_worth => k_is)
    (case q9c_worth => k_is)
    (case q9k_worth => k_is)
    (case q9a_opener => k_is)
    (case q9l_opener => k_is)
    (case q9c_opener => k_is)
    (case q9k_opener => k_is)
    (case q9a_steps => k_is)
    (case q9l_steps => k_is)
    (case q9c_steps => k_is)
    (case q9k_steps => k_is)
    (case q9a_width => k_is)
    (case q9l_width => k_is)
    (case q9c_width => k_is)
    (case q9k_width => k_is)
    (case q9a_page => k_is)
    (case q9l_page => k_is)
    (case q9c_page => k_is)
    (case q9k_page => k_is)
    (case q9a_right => k_is)
    (case q9l_right => k_is)
    (case q9c_right => k_is)
    (case q9k_right => k_is)
    (case q9a_law => k_is)
    (case q9l_law => k_is)
    (case q9c_law => k_is)
    (case q9k_law => k_is)
    (case q9a_word => k_is)
    (case q9l_word => k_is)
    (case q9c_word => k_is)
    (case q9k_word => k_is)
    (case q9a_numin => k_is)
    (case q9l_numin => k_is)
    (case q9c_numin => k_is)
    (case q9k_numin => k_is)
    (case q9a_size => k_is)
    (case q9l_size => k_is)
    (case q9c_size => k_is)
    (case q9k_size => k_is)
    (case q9a_rctext => k_is)
    (case q9l_rctext => k_is)
    (case q9c_rctext => k_is)
    (case q9k_rctext => k_is)
    (case q9a_read => k_is)
    (case q9l_read => k_is)
    (case q9c_read => k_is)
    (case q9k_read => k_is)
    (case q9a_named => k_is)
    (case q9l_named => k_is)
    (case q9c_named => k_is)
    (case q9k_named => k_is)
    (case q9a_sttext => k_is)
    (case q9l_sttext => k_is)
    (case q9c_sttext => k_is)
    (case q9k_sttext => k_is)
    (case q9a_stepin => k_is)
    (case q9l_stepin => k_is)
    (case q9c_stepin => k_is)
    (case q9k_stepin => k_is)
    (case q9g_longest => k_is)
    (case q9g_mostn => k_is)
    (case q9z_len => k_is)
    (case q9z_list => k_is)
    (case q9z_tuple => k_is)
    (case q9z_range => k_is)
    (case q9z_isinstance => k_is)
    (case q9z_str => k_is)
    (case q9z_int => k_is)
    (case q9z_bool => k_is)
    (case q9z_all => k_is)
    (case q9z_any => k_is)
    (case q9z_zip => k_is)
    (case q9z_dict => k_is)
    (case q9z_set => k_is)
    (case q9z_sorted => k_is)
    (case q9z_reversed => k_is)
    (case q9z_enumerate => k_is)
    (case q9z_repr => k_is)
    (case q9z_sum => k_is)
    (case q9z_min => k_is)
    (case q9z_max => k_is)

