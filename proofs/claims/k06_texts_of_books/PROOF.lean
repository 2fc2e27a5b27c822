import PyProof.Rows.All
import Wide.All
import OpenK.AllK
import Wide.FinOn
import PyProof.ReprRoads
import KE.KExcIs
import KE.KExcInit
import HandS.ForMost
import HandS.Exc
import HandS.TryMany
import HandS.ExcOwn
import HandS.ExcInit
import HandS.IsInst
import HandS.Style
import HandS.ExcValue
import KE.KDictPairs
import HandS.Walk
import HandS.Codes
import HandS.Text
import HandS.OwnEq
import KE.KCallOwn
import HandS.ClsMeth
import HandS.More
import KE.GoesEnumKw
import HandS.RaiseMore
import HandS.Star
import HandS.FStr
import HandS.Flow
import PyProof.ReprText
import PySem.Challenge.RW_sealedalike_k06_texts_of_books
set_option Elab.async false
set_option linter.all false
set_option maxRecDepth 100000
set_option maxHeartbeats 2000000
namespace Mine
open PySem PySem.Spec PyProof.Rows L2

/-- the chain of classes above the package's own errors -/
abbrev chain : List Value := [.type "Exception", .type "BaseException", .type "object"]

/-- what the top says of an error class, whoever reads its instances -/
structure ErrA (K : PySem.W.Frag) (C : Addr) : Prop where
  kp : PySem.W.keepIn K (.ref C) = true
  cl : PySem.W.isClsIn K C = true
  ga : PySem.W.findIn K (.ref C) "__getattribute__" = some (some (.builtin "BaseException.__getattribute__"))
  gg : PySem.W.findIn K (.ref C) "__getattr__" = some none
  su : PySem.W.subIn K (.ref C) (.type "BaseException") = some true
  ca : PySem.W.findIn K (.ref C) "__class__" = some (some (.builtin "object.__class__"))
  cn : PySem.W.specialIn K (.builtin "object.__class__") "__get__" = some (some (.builtin "getset_descriptor.__get__"))
  ct : PySem.W.takesIn K (.builtin "object.__class__") = some true
  cm : PySem.W.mroIn K C (.type "object") = some true
  ty : PySem.W.typeIn K (.ref C) = some (.type "type")
  hd : PySem.W.hasDictIn K C = true

/-- an error object at a, of the class at C: bare, or with its dict -/
def EAt (H : Hp) (a C : Addr) : Option (Addr × List (Str × V)) → Prop
  | none => H a = some (exo a C none)
  | some (dx, fs) => H a = some (exo a C (some dx)) ∧ H dx = some (exd dx fs)

theorem EAt.inst {X : Cx} {pins : List (Addr × Obj)} {σ : L2.St} {H : Hp} {s : Shared} {a C : Addr} {o : Option (Addr × List (Str × V))} (I : Inv X pins σ H s) (h : EAt H a C o) :
    ∃ ox od, PySem.W.InstAt s.heap a ox C od := by
  cases o with
  | none =>
    obtain ⟨t, e⟩ := exo_at I.hok h
    exact ⟨_, none, e, rfl, rfl, trivial⟩
  | some p =>
    obtain ⟨dx, fs⟩ := p
    obtain ⟨t, e⟩ := exo_at I.hok h.1
    obtain ⟨m, ⟨od, es, ep, e2, _⟩, _⟩ := exd_at I.hok h.2
    exact ⟨_, some od, e, rfl, rfl, e2⟩

/-! isinstance of an error that is held -/
def rIs (K : PySem.W.Frag) : List V → Hp → VK → Prop := fun xs H Q => ∃ (a C : Addr) (o : Option (Addr × List (Str × V))) (c : V) (u : Value) (b : Bool),
  xs = [.ref a, c] ∧ EAt H a C o ∧ ErrA K C ∧ ClsV c u ∧ PySem.W.kitOne K (.ref C) u = some b ∧ Q (.bl b) H
def rIsMany (K : PySem.W.Frag) : List V → Hp → VK → Prop := fun xs H Q => ∃ (a C tp : Addr) (o : Option (Addr × List (Str × V))) (cs : List V) (us : List Value) (b : Bool),
  xs = [.ref a, .ref tp] ∧ EAt H a C o ∧ ErrA K C ∧ H tp = some (.tup cs) ∧ Paired ClsV cs us ∧ PySem.W.kitAny K (.ref C) us = some b ∧ Q (.bl b) H
theorem isOne {X : Cx} : CallR X (.builtin "isinstance") (rIs X.K) := by
  intro pins s σ H xs us Q I r h
  obtain ⟨a, C, o, c, u, b, rfl, ha, T, k, e, q⟩ := h
  obtain ⟨u1, u2, rfl, r1, r2⟩ := vals2 r
  have e2 := k.eq r2
  subst e2
  cases (show u1 = Value.ref a from r1)
  obtain ⟨ox, od, J⟩ := ha.inst I
  have Z : PySem.W.KitX X.K (.ref a) (.ref C) (fun h => PySem.W.InstAt h a ox C od) := PySem.W.kitx_exc T.cl T.ga T.gg T.su T.ca T.cn T.ct T.cm
  exact PySem.W.kia_one Z I.kIn J e (fun z => nomatch z) fun tk => ⟨.bl b, H, I.tok tk, rfl, q⟩
theorem isMany {X : Cx} : CallR X (.builtin "isinstance") (rIsMany X.K) := by
  intro pins s σ H xs us Q I r h
  obtain ⟨a, C, tp, o, cs, ws, b, rfl, ha, T, hT, k, e, q⟩ := h
  obtain ⟨u1, u2, rfl, r1, r2⟩ := vals2 r
  cases (show u1 = Value.ref a from r1)
  cases (show u2 = Value.ref tp from r2)
  obtain ⟨ox, od, J⟩ := ha.inst I
  obtain ⟨_, its, rv, o', h1, h2, n, h3⟩ := (show ObjOk X.prog X.w H s.heap tp (.tup cs) from I.hok tp _ hT)
  have e3 := ClsV.all k rv
  subst e3
  obtain ⟨oc, od', dt, sl⟩ := o'
  simp only at h2 h3
  subst h2 h3
  have Z : PySem.W.KitX X.K (.ref a) (.ref C) (fun h => PySem.W.InstAt h a ox C od) := PySem.W.kitx_exc T.cl T.ga T.gg T.su T.ca T.cn T.ct T.cm
  exact PySem.W.kia_tup Z I.kIn J h1 e (fun z => nomatch z) fun tk => ⟨.bl b, H, I.tok tk, rfl, q⟩

/-! a field of an error that is held -/
def tFld (K : PySem.W.Frag) (n : Str) (te : TE) : TE := fun σ H Q => te σ H fun x H1 => ∃ (a C dx : Addr) (fs : List (Str × V)) (v : V), x = .ref a ∧ EAt H1 a C (some (dx, fs)) ∧ ErrA K C ∧ PySem.W.findIn K (.ref C) n = some none ∧ fs.lookup n = some v ∧ Q v H1
theorem pe_efld {X : Cx} {e : Expr} {te : TE} {pos : Pos} {n : Str} (he : PE X e te) (hb : attributeBase e n X.env (eval e X.env) = eval e X.env := by rfl) : PE X (.Attribute e n pos) (tFld X.K n te) := by
  refine ⟨fun pins s σ H Q I h => ?_⟩
  refine attr_of hb (thn (he.run pins s σ H _ I h) fun u s1 hh => ?_)
  obtain ⟨x, H1, I1, rx, a, C, dx, fs, v, ex, ea, T, hno, l, q⟩ := hh
  subst ex
  obtain rfl : u = Value.ref a := rx
  obtain ⟨t, hx⟩ := exo_at I1.hok ea.1
  obtain ⟨mA, hns, hr⟩ := exd_at I1.hok ea.2
  obtain ⟨od, ho, hl⟩ := lookIn_ns hns
  obtain ⟨u, hu, ru⟩ := RelO.some_of (v := v) (o := mA n) (by rw [← l]; exact hr n)
  have J : PySem.W.InstAt s1.heap a _ C (some od) := ⟨hx, rfl, rfl, ho⟩
  exact HandSPX.exc_get I1.kIn J T.ga T.gg T.su (PySem.W.findObj_own T.hd hno rfl (by rw [hl, hu])) (handed_of ru) ⟨v, H1, I1.tok _, ru, q⟩

/-! two new objects beside all that was there: an error and its dict -/
theorem inv_two {X : Cx} {pins : List (Addr × Obj)} {σ : L2.St} {H : Hp} {s : Shared} {h' : Heap} {a dx : Addr} {o u : HO} {tk : Nat} (I : Inv X pins σ H s) (k : ∀ b z, s.heap.get? b = some z → h'.get? b = some z) (ha : s.heap.objs.size ≤ a) (hd : s.heap.objs.size ≤ dx) (ne : dx ≠ a)
    (oa : ObjOk X.prog X.w (upd (upd H dx u) a o) h' a o) (ou : ObjOk X.prog X.w (upd (upd H dx u) a o) h' dx u) : Inv X pins σ (upd (upd H dx u) a o) { s with heap := h', toks := tk } := by
  have na := I.hok.fresh ha
  have nd := I.hok.fresh hd
  have kept : ∀ {b : Addr} {z : HO}, H b = some z → upd (upd H dx u) a o b = some z := fun {b z} e => by
    rw [upd_ne (ne_of_none e na), upd_ne (ne_of_none e nd)]
    exact e
  have un : Un X.fs [] H (upd (upd H dx u) a o) s.heap h' := {
    keep := fun b z e _ _ _ => k b z e
    slot := fun b z e _ _ _ => ⟨z.slots, k b z e⟩
    free := fun b z e n _ => by
      have lt := Heap.lt_size e
      rw [upd_ne (Nat.ne_of_lt (Nat.lt_of_lt_of_le lt ha)), upd_ne (Nat.ne_of_lt (Nat.lt_of_lt_of_le lt hd))]
      exact n
    there := fun b z e _ => ⟨z, k b z e⟩
    tups := fun _ _ e => kept e
    frzs := fun _ _ _ e => kept e
    tbls := fun b ps e => ⟨#[], by rw [kept e, Array.append_empty]⟩ }
  refine I.un (t' := tk) un fun b z e => ?_
  by_cases hb : b = a
  · subst hb
    rw [upd_same] at e
    cases e
    exact oa
  · rw [upd_ne hb] at e
    by_cases hbd : b = dx
    · subst hbd
      rw [upd_same] at e
      cases e
      exact ou
    · rw [upd_ne hbd] at e
      exact (I.hok b z e).stay (fun c v _ y => k c v y) (fun _ y => kept y) fun _ _ y => kept y
end Mine

set_option Elab.async false
set_option linter.all false
set_option maxRecDepth 100000
set_option maxHeartbeats 4000000
/-! An error class over Exception, called with values and names: the object is made, then its own __init__ runs. -/
namespace Mine
open PySem PySem.Spec L2
section
variable {prog : Program} {w : World} {M : Model} {A : Around} {E : Value → Shared → Prop} {R : Result → Shared → Prop} {h : Heap} {g : Array GenState} {d : Drawn} {t : Nat} {os : OsState}
variable {nm q : Str} {C N : Addr} {bs bm bmB : List Value} {hdct : Bool} {sn : List Str} {sub : List Value} {ab : Bool} {col : Option Bool} {dd : Option Addr} {k0 k1 k2 k3 k5 : Option Value} {B newId initId : String}
/-- the object alone -/
abbrev bareE (C t : Addr) : Obj := HandSPX.excO C t
theorem newOk_kw (F : ExcBaseFacts B newId initId bmB) (hT : ∀ X : String, bm.contains (.type X) = bmB.contains (.type X)) {rest : List Value} {kw : List (Str × Value)} {Q : Unit → Shared → Prop}
    (hC : h.get? C = some (excClassObj nm q C N bs bm hdct sn sub ab col dd k0 k1 k2 k3 k5 newId)) (z : Q () ⟨h, g, d, t, os⟩) : wpAny M A (checkBuiltinCall newId ⟨.ref C :: rest, kw⟩) Q E ⟨h, g, d, t, os⟩ := by
  have has : (Value.ref C :: bm).contains (.type B) = true := by rw [List.contains_cons, hT, F.hasB, Bool.or_true]
  have st := F.noStar
  simp only [checkBuiltinCall, F.newKind, F.newSplit, F.newRow]
  repeat (first | refine wpAny_loadPart_at hC ?_ | (refine wpAny_isSubtype_exc hC ?_; rw [has]) | refine wpAny_staticBase_exc hC ?_ | refine wpAny_madeBy_exc hC ?_ | simp only [bne_self_eq_false, Bool.false_eq_true, if_false] | wp_step)
  exact z
theorem newRun_kw (F : ExcBaseFacts B newId initId bmB) (hT : ∀ X : String, bm.contains (.type X) = bmB.contains (.type X)) {rest : List Value} {kw : List (Str × Value)}
    (hC : h.get? C = some (excClassObj nm q C N bs bm hdct sn sub ab col dd k0 k1 k2 k3 k5 newId)) (fits : rest.length ≤ sizeLine)
    (z : R (.ok (.ret (.ref (h.objs.size + 1)))) ⟨(h.push (W.kdv_tup rest)).push (bareE C h.objs.size), g, d, t, os⟩) :
    codeAny (model prog w) A (.builtin newId ⟨.ref C :: rest, kw⟩) R ⟨h, g, d, t, os⟩ := by
  have en := F.ends
  have hB : (Value.ref C :: bm).contains (.type B) = true := by rw [List.contains_cons, hT, F.hasB, Bool.or_true]
  have hA : (Value.ref C :: bm).contains (.type "AttributeError") = false := by rw [List.contains_cons, hT, F.noAttr]; rfl
  have hN : (Value.ref C :: bm).contains (.type "NameError") = false := by rw [List.contains_cons, hT, F.noName]; rfl
  refine codeAny_builtinAt F.entry ?_
  unfold Builtin.«BaseException.__new__»
  refine wpAt_bind ?_
  show wpAt _ _ _ (stack >>= _) _ _ _
  refine wpAt_bind (wpAt_stack fun p below => wpAt_of_wpAny ?_)
  wp_walk
  refine wpAt_of_wpAny ?_
  rw [F.owner]
  repeat (first | with_reducible refine wpAny_madeHere_exc F.canon hC ?_ | with_reducible refine wpAny_loadPart_at hC ?_ | (with_reducible refine wpAny_isSubtype_exc hC ?_; first | rw [hB] | rw [hA] | rw [hN]) | wp_step)
  show R _ _
  rw [Heap.size_push]
  exact z
theorem typeCall_kw (F : ExcBaseFacts B newId initId bmB) (hT : ∀ X : String, bm.contains (.type X) = bmB.contains (.type X)) {rest : List Value} {kw : List (Str × Value)} {fI : Addr} {Q : Fin → Shared → Prop}
    (hC : h.get? C = some (excClassObj nm q C N bs bm hdct sn sub ab col dd k0 k1 k2 k3 k5 newId)) (fits : rest.length ≤ sizeLine)
    (hi : W.Looks (model prog w) h (typeLookup (.ref C) "__init__") (some (.ref fI))) (hb : ∀ self, W.Looks (model prog w) h (bindSpecial (.ref fI) self) (.ref fI, [self]))
    (z : codeAny (model prog w) A (.call (.ref fI) ⟨.ref (h.objs.size + 1) :: rest, kw⟩)
      (fun r s' => match r with | .ok (.ret v) => v = .none ∧ Q (.done (.ret (.ref (h.objs.size + 1)))) s' | .ok _ => False | .error e => E e s') ⟨(h.push (W.kdv_tup rest)).push (bareE C h.objs.size), g, d, t, os⟩) :
    wpAny (model prog w) A (Builtin.«type.__call__» ⟨.ref C :: rest, kw⟩) Q E ⟨h, g, d, t, os⟩ := by
  repeat (first | with_reducible refine wpAny_loadPart_at hC ?_ | with_reducible refine wpAny_madeBy_exc hC ?_ | wp_step)
  refine codeAny_call_builtin_code (Code.quiet_builtin _ F.quiet) (newOk_kw F hT hC ?_)
  refine newRun_kw F hT hC fits ?_
  show wpAny _ _ _ _ _ _
  have k : ∀ b o, h.get? b = some o → ((h.push (W.kdv_tup rest)).push (bareE C h.objs.size)).get? b = some o := fun b o e => Heap.get?_push_of_some _ (Heap.get?_push_of_some _ e)
  have hC1 := k _ _ hC
  have he : ((h.push (W.kdv_tup rest)).push (bareE C h.objs.size)).get? (h.objs.size + 1) = some (bareE C h.objs.size) := by heap_get
  have own : (Value.ref C :: bm).contains (.ref C) = true := by simp
  have i1 := hi.keeps k
  have b1 := (hb (.ref (h.objs.size + 1))).keeps k
  unfold isInstance
  repeat (first | with_reducible refine wpAny_loadPart_at he ?_ | (with_reducible refine wpAny_isSubtype_exc hC1 ?_; rw [own]) | wp_step)
  show wpAny _ _ (typeLookup (.ref C) _) _ _ _
  refine i1.at ?_
  refine wpAny_holding (wpAny_bind (b1.at ?_))
  refine wpAny_bind (wpAny_call (codeAny_mono z fun r s' y => ?_))
  rcases r with e | (v | _ | _ | _) <;> first | exact y | exact y.elim | skip
  obtain ⟨rfl, y⟩ := y
  first
    | exact wpAny_pure (wpAny_pure y)
    | (wp_walk; exact y)
theorem call_kw (F : ExcBaseFacts B newId initId bmB) (hT : ∀ X : String, bm.contains (.type X) = bmB.contains (.type X)) {rest : List Value} {kw : List (Str × Value)} {fI : Addr}
    (hC : h.get? C = some (excClassObj nm q C N bs bm hdct sn sub ab col dd k0 k1 k2 k3 k5 newId)) (fits : rest.length ≤ sizeLine)
    (hi : W.Looks (model prog w) h (typeLookup (.ref C) "__init__") (some (.ref fI))) (hb : ∀ self, W.Looks (model prog w) h (bindSpecial (.ref fI) self) (.ref fI, [self]))
    (z : codeAny (model prog w) (A.under (.builtin "type.__call__" ⟨.ref C :: rest, kw⟩)) (.call (.ref fI) ⟨.ref (h.objs.size + 1) :: rest, kw⟩) (W.InitBack (h.objs.size + 1) R) ⟨(h.push (W.kdv_tup rest)).push (bareE C h.objs.size), g, d, t, os⟩) :
    codeAny (model prog w) A (.call (.ref C) ⟨rest, kw⟩) R ⟨h, g, d, t, os⟩ := by
  have f1 := tc_lookup
  have f2 := tc_bind (.ref C)
  have hTy : (⟨h, g, d, t, os⟩ : Shared).TypeIs (.ref C) "type" := ⟨_, hC, rfl⟩
  refine codeAny_of_tree ?_
  show wpAny _ _ (callAny (.ref C) _) _ _ _
  repeat (any_goals (first | assumption | with_reducible refine wpAny_loadPart_at hC ?_ | wp_step))
  refine ⟨rfl, ?_⟩
  refine codeAny_call_builtin_at (Code.quiet_builtin _ (by decide +kernel)) entry_typeCall (wpAny_check_type_call_sub hC (typeCall_kw F hT hC fits hi hb ?_))
  refine codeAny_mono z fun r s' y => ?_
  rcases r with e | (v | _ | _ | _) <;> exact y
end
end Mine

set_option Elab.async false
set_option linter.all false
set_option maxRecDepth 100000
set_option maxHeartbeats 4000000
/-! A def __init__(self, f) that stores f, run on a bare error; errors made by value and by name, and raised. -/
namespace Mine
open PySem PySem.Spec L2
/-- the text of such a def -/
structure Ini (q : Str) (st : Stmt) (f : Str) : Prop where
  body : ∃ q1 q2 q3 q4, defBody st = [.Assign [.Attribute (.Name "self" q1) f q2] (.Name f q3) q4]
  names : (defScope st).names = [(PySem.Str.ofString "self", .local), (f, .local)]
  kind : (defScope st).kind = .function
  co : (defScope st).isCoroutine = false
  gen : (defScope st).isGenerator = false
  b1 : ∀ (kV doc pm : Value) (an : Option Addr) (cdv ct x v : Value), bindArgs (PySem.W.fnOf "__init__" q (defArgs st) (defBody st) (defScope st) .none kV doc pm an cdv ct) ⟨[x, v], []⟩ = pure [(PySem.Str.ofString "self", x), (f, v)]
  b2 : ∀ (kV doc pm : Value) (an : Option Addr) (cdv ct x v : Value), bindArgs (PySem.W.fnOf "__init__" q (defArgs st) (defBody st) (defScope st) .none kV doc pm an cdv ct) ⟨[x], [(f, v)]⟩ = pure [(PySem.Str.ofString "self", x), (f, v)]
  ne : (f == (PySem.Str.ofString "self")) = false
  db : (f == (PySem.Str.ofString "__debug__")) = false
/-- an error class with such an __init__, its field f -/
structure ErrF (K : PySem.W.Frag) (mg : Str → Option Value) (x f : Str) (C fI : Addr) : Prop extends ErrA K C where
  g : mg x = some (.ref C)
  new : PySem.W.excInitIn K C chain "Exception.__new__" = true
  over : PySem.W.excOver K C chain = true
  sa : PySem.W.findIn K (.ref C) "__setattr__" = some (some (.builtin "object.__setattr__"))
  tk : PySem.W.takerIn K C f = some none
  no : PySem.W.findIn K (.ref C) f = some none
  ini : PySem.W.findIn K (.ref C) "__init__" = some (some (.ref fI))
  tI : PySem.W.typeIn K (.ref fI) = some (.type "function")
  txt : ∃ (q : Str) (st : Stmt) (fd : FuncData), Fun K "__init__" q st fI fd ∧ Ini q st f
/-- an error class without -/
structure ErrN (K : PySem.W.Frag) (mg : Str → Option Value) (x : Str) (C : Addr) : Prop extends ErrA K C where
  g : mg x = some (.ref C)
  new : PySem.W.excIn K C chain "Exception.__new__" = true

section
variable {prog : Program} {w : World} {A : Around} {E : Value → Shared → Prop} {R : Result → Shared → Prop} {K : PySem.W.Frag} {mg : Str → Option Value} {x f : Str} {C fI : Addr}
/-- an error object, dict and all -/
abbrev fullE (C t dx : Addr) : Obj := { cls := .ref C, dict := some dx, data := .fields #[.ref t, .none, .none, .none, .bool false, .none] }
/-- what the call of __init__ leaves -/
structure Stored (h h' : Heap) (e C t dx : Addr) (f : Str) (v : Value) : Prop where
  keep : ∀ b o, b ≠ e → h.get? b = some o → h'.get? b = some o
  obj : h'.get? e = some (fullE C t dx)
  big : h.objs.size ≤ dx
  ne : dx ≠ e
  ns : h'.Ns1 dx (fun y => if y = f then some v else none)
theorem store_bare (T : ErrF K mg x f C fI) {e t : Addr} {v : Value} {tk : Tok} {s : Shared} (X : K.In s.heap) (he : s.heap.get? e = some (bareE C t))
    (z : ∀ h' tk' dx, Stored s.heap h' e C t dx f v → R (.ok (.ret .none)) { s with heap := h', toks := tk' }) :
    codeAny (model prog w) A (.call (.builtin "object.__setattr__") ⟨[.ref e, .str f tk, v], []⟩) R s := by
  obtain ⟨hp, g, d, tt, os⟩ := s
  have he' : hp.get? e = some (bareE C t) := he
  have X' : K.In hp := X
  have J : PySem.W.InstAt hp e (bareE C t) C none := ⟨he', rfl, rfl, trivial⟩
  have ne : e ≠ hp.objs.size := Nat.ne_of_lt (Heap.lt_size he')
  obtain ⟨cd, hc, hm⟩ := PySem.W.any_some T.hd
  have hcls : PySem.W.Looks (model prog w) hp (classData C) cd := PySem.W.looks_clsIn X' hc
  refine PySem.W.osa_openX (s := ⟨hp, g, d, tt, os⟩) (od := none) PySem.F.store_Exception X J T.over T.tk fun b => ?_
  show wpAny _ _ (Builtin.ObjectAttr.storeInOwnDict (.ref e) (.ref C) (.str f tk) f v b) _ _ _
  obtain ⟨nm, bs, mro, ns, qn, hdd, sn, sb, ab, col, del⟩ := cd
  dsimp only at hm
  subst hm
  have first : hp.get? e = some (bareE C t) → ((hp.push { cls := .type "dict", data := .dict #[] }).update e fun o => { o with dict := some hp.objs.size }).Ns hp.objs.size fun _ => none := fun _ =>
    ⟨_, #[], _, (Heap.get?_update_ne _ _ _ _ ne.symm).trans (Heap.get?_push_at rfl rfl), rfl, fun y hy => absurd hy (by simp), fun _ => rfl⟩
  have last : ∀ (h' : Heap) (tk' : Nat), h'.Ns1 hp.objs.size (fun y => if y = f then some v else none) → Heap.SameBut hp.objs.size ((hp.push { cls := .type "dict", data := .dict #[] }).update e fun o => { o with dict := some hp.objs.size }) h' →
      R (.ok (.ret .none)) ⟨h', g, d, tk', os⟩ := fun h' tk' hn hs => by
    have e1 : (hp.push { cls := .type "dict", data := .dict #[] }).get? e = some (bareE C t) := Heap.get?_push_of_some _ he'
    refine z h' tk' hp.objs.size ⟨fun b o hb ho => ?_, ?_, Nat.le_refl _, ne.symm, hn⟩
    · exact (hs.2 b (Nat.ne_of_lt (Heap.lt_size ho))).trans ((Heap.get?_update_ne _ _ _ _ hb).trans (Heap.get?_push_of_some _ ho))
    · exact (hs.2 e ne).trans (Heap.get?_update_self _ e1 rfl)
  unfold Builtin.ObjectAttr.storeInOwnDict Builtin.ObjectAttr.ownDictForStores
  cases b
  all_goals
    repeat (first | with_reducible refine HandSPX.store_in_new ?_ ?_ | with_reducible refine wpAny_loadPart_at he' ?_ | with_reducible refine hcls.at ?_ | wp_step)
  all_goals first | exact first he' | exact last
theorem find_loc {P : Shared → Prop} {s : Shared} {nm q : Str} {sc : Scope} {L a : Addr} {cd : Value} {m : Str → Option Value} {y : Str} {pos : Pos} {v : Value} {Q : Value → Shared → Prop} (hn : s.heap.Ns L m) (hv : m y = some v) (z : Q v s)
    (hk : sc.kind = .function) (hl : sc.names.lookup y = some .local) (hd : (y == (PySem.Str.ofString "__debug__")) = false) :
    wpAny (model prog w) A (eval (.Name y pos) (PyProof.Rows.envOfC q sc L a cd)) Q E s := wpAny_Name (wpAny_loadName_local hk hl hn hv z) hd
/-- the call of __init__ on a bare error -/
theorem init_run (T : ErrF K mg x f C fI) {e t : Addr} {v : Value} {args : Args} {s : Shared} (X : K.In s.heap) (lim : s.heap.NoLimit) (he : s.heap.get? e = some (bareE C t)) (room : A.depth < recursionLimit)
    (hargs : args = ⟨[.ref e, v], []⟩ ∨ args = ⟨[.ref e], [(f, v)]⟩)
    (z : ∀ h' tk' dx, Stored s.heap h' e C t dx f v → R (.ok (.ret .none)) { s with heap := h', toks := tk' }) :
    codeAny (model prog w) A (.call (.ref fI) args) R s := by
  obtain ⟨q, st, fd, F, T1⟩ := T.txt
  obtain ⟨oc, od, kV, doc, pm, an, cdv, ct, osl, rfl, lk, hcd⟩ := F.ex
  obtain ⟨q1, q2, q3, q4, hb⟩ := T1.body
  have lS : (defScope st).names.lookup (PySem.Str.ofString "self") = some .local := by rw [T1.names]; rfl
  have lF : (defScope st).names.lookup f = some .local := by
    rw [T1.names]
    simp only [List.lookup, T1.ne]
    simp
  have bind : BindsTo s (PySem.W.fnOf "__init__" q (defArgs st) (defBody st) (defScope st) .none kV doc pm an cdv ct) args [(PySem.Str.ofString "self", .ref e), (f, v)] := by
    rcases hargs with rfl | rfl
    · exact BindsTo.of_eq (T1.b1 ..)
    · exact BindsTo.of_eq (T1.b2 ..)
  refine Att.call_fn X lim lk hcd room bind ?_ (fun s1 IC => ?_) T1.co T1.gen T1.kind
  · simp only [List.all_cons, List.all_nil, lS, lF]
    rfl
  · obtain ⟨h1, tk1, rfl⟩ := IC.toInCall.same
    have k : ∀ b o, s.heap.get? b = some o → h1.get? b = some o := IC.toInCall.keep
    have hn := IC.toInCall.ns
    have lt := Heap.lt_size he
    have mS : bindL (PyProof.Rows.envOfC q (defScope st) s.heap.objs.size fI cdv).kindOf (([PySem.Str.ofString "self", f] : List Str).zip [Value.ref e, v]) (fun _ => none) (PySem.Str.ofString "self") = some (.ref e) := by
      refine bindL_get (P := [PySem.Str.ofString "self", f]) (vs := [.ref e, v]) (i := 0) ?_ rfl rfl lS
      exact List.nodup_cons.mpr ⟨fun q => by
        have e2 : PySem.Str.ofString "self" = f := by simpa using q
        have := T1.ne
        rw [← e2] at this
        simp at this, List.nodup_cons.mpr ⟨by simp, List.nodup_nil⟩⟩
    have mF : bindL (PyProof.Rows.envOfC q (defScope st) s.heap.objs.size fI cdv).kindOf (([PySem.Str.ofString "self", f] : List Str).zip [Value.ref e, v]) (fun _ => none) f = some v := by
      refine bindL_get (P := [PySem.Str.ofString "self", f]) (vs := [.ref e, v]) (i := 1) ?_ rfl rfl lF
      exact List.nodup_cons.mpr ⟨fun q => by
        have e2 : PySem.Str.ofString "self" = f := by simpa using q
        have := T1.ne
        rw [← e2] at this
        simp at this, List.nodup_cons.mpr ⟨by simp, List.nodup_nil⟩⟩
    rw [hb]
    show wpAny _ _ (execs _ _) _ _ _
    refine wpAny_execs_cons (plainObj_wpAny_Assign_Attribute ?_)
    refine find_loc (P := fun _ => True) (nm := "__init__") hn mF (find_loc (P := fun _ => True) (nm := "__init__") hn mS ?_ T1.kind lS (by decide)) T1.kind lF T1.db
    refine PySem.W.set_plain (X.keeps k) (ox := bareE C t) (od := none) ⟨k _ _ he, rfl, rfl, trivial⟩ T.sa ?_
    refine store_bare T (s := { s with heap := h1, toks := tk1 + 1 }) (X.keeps k) (k _ _ he) fun h3 tk3 dx S => ?_
    show wpAny _ _ (execs _ _) _ _ _
    have z1 : s.heap.objs.size < h1.objs.size := hn.lt
    exact wpAny_execs_nil (z h3 tk3 dx ⟨fun b o hb2 e2 => S.keep b o hb2 (k b o e2), S.obj, Nat.le_of_lt (Nat.lt_of_lt_of_le z1 S.big), S.ne, S.ns⟩)
end
end Mine

set_option Elab.async false
set_option linter.all false
set_option maxRecDepth 100000
set_option maxHeartbeats 4000000
/-! Errors made as values (by position, by name, without anything), and raised. -/
namespace Mine
open PySem PySem.Spec L2
/-- a new error e with its dict dx: all that stood stands -/
structure MadeE (h h' : Heap) (e C t dx : Addr) (f : Str) (v : Value) : Prop where
  keep : ∀ b o, h.get? b = some o → h'.get? b = some o
  new : h.objs.size ≤ e
  obj : h'.get? e = some (fullE C t dx)
  big : h.objs.size ≤ dx
  ne : dx ≠ e
  ns : h'.Ns1 dx (fun y => if y = f then some v else none)
section
variable {prog : Program} {w : World} {A : Around} {E : Value → Shared → Prop} {R : Result → Shared → Prop} {K : PySem.W.Frag} {mg : Str → Option Value} {x f : Str} {C fI : Addr}
theorem call_err (T : ErrF K mg x f C fI) {v : Value} {us : List Value} {kw : List (Str × Value)} {s : Shared} (X : K.In s.heap) (lim : s.heap.NoLimit) (room : A.depth + 1 < recursionLimit) (ha : (us = [v] ∧ kw = []) ∨ (us = [] ∧ kw = [(f, v)]))
    (z : ∀ h' tk e t dx, MadeE s.heap h' e C t dx f v → R (.ok (.ret (.ref e))) { s with heap := h', toks := tk }) :
    codeAny (model prog w) A (.call (.ref C) ⟨us, kw⟩) R s := by
  obtain ⟨nm, N, qn, bs, bm, hdct, sn, sub, ab, col, dd, k0, k1, k2, k3, k5, hC, hT⟩ := PySem.W.excInit_of X T.new
  obtain ⟨hp, g, d, tk, os⟩ := s
  have hs : us.length ≤ sizeLine := by
    rw [sizeLine_eq]
    rcases ha with ⟨rfl, _⟩ | ⟨rfl, _⟩ <;> simp
  have k : ∀ b o, hp.get? b = some o → ((hp.push (PySem.W.kdv_tup us)).push (bareE C hp.objs.size)).get? b = some o := fun b o e => Heap.get?_push_of_some _ (Heap.get?_push_of_some _ e)
  have he : ((hp.push (PySem.W.kdv_tup us)).push (bareE C hp.objs.size)).get? (hp.objs.size + 1) = some (bareE C hp.objs.size) := by heap_get
  have Xh : K.In hp := X
  refine call_kw PySem.F.excBase_Exception hT hC hs (PySem.W.looks_findIn Xh T.ini) (fun self => PySem.W.bind_fn Xh self T.tI) ?_
  refine init_run T (v := v) (s := ⟨_, g, d, tk, os⟩) (Xh.keeps k) (PySem.Heap.NoLimit.keeps lim k) he ?_ ?_ fun h' tk' dx S => ?_
  · show A.depth + 1 < recursionLimit
    exact room
  · rcases ha with ⟨rfl, rfl⟩ | ⟨rfl, rfl⟩
    · exact .inl rfl
    · exact .inr rfl
  · have big : hp.objs.size + 1 + 1 ≤ dx := by
      have q := S.big
      simp only [Heap.size_push] at q
      exact q
    exact ⟨rfl, z h' tk' (hp.objs.size + 1) hp.objs.size dx ⟨fun b o e => S.keep b o (Nat.ne_of_lt (Nat.lt_succ_of_lt (Heap.lt_size e))) (k b o e), Nat.le_succ _, S.obj, Nat.le_trans (Nat.le_trans (Nat.le_succ _) (Nat.le_succ _)) big, S.ne, S.ns⟩⟩
end
section
variable {X : Cx} {x f : Str} {C fI : Addr} {e : Expr} {te : TE} {p pos kpos : Pos}
/-- the heap with the new error -/
def eUp (H : Hp) (a dx C : Addr) (f : Str) (v : V) : Hp := upd (upd H dx (exd dx [(f, v)])) a (exo a C (some dx))
theorem eUp_at {H : Hp} {a dx C : Addr} {f : Str} {v : V} (ne : dx ≠ a) : EAt (eUp H a dx C f v) a C (some (dx, [(f, v)])) := ⟨upd_same, by unfold eUp; rw [upd_ne ne, upd_same]⟩
theorem eUp_ne {H : Hp} {a dx C b : Addr} {f : Str} {v : V} (h1 : b ≠ a) (h2 : b ≠ dx) : eUp H a dx C f v b = H b := by unfold eUp; rw [upd_ne h1, upd_ne h2]
def tErr (C : Addr) (f : Str) (ta : TA) : TE := fun σ H Q => ta σ H fun vs H1 => ∃ v, vs = [v] ∧ ∀ a dx, H1 a = none → H1 dx = none → dx ≠ a → Q (.ref a) (eUp H1 a dx C f v)
theorem err_back {pins : List (Addr × Obj)} {σ : L2.St} {H1 : Hp} {s1 : Shared} {v : V} {u : Value} {Q : VK} (T : ErrF X.K X.mg x f C fI) (I1 : L2.Inv X pins σ H1 s1) (rv : L2.RelV v u) (q : ∀ a dx, H1 a = none → H1 dx = none → dx ≠ a → Q (.ref a) (eUp H1 a dx C f v))
    (room : X.A.depth + 1 < recursionLimit) {us : List Value} {kw : List (Str × Value)} (ha : (us = [u] ∧ kw = []) ∨ (us = [] ∧ kw = [(f, u)])) : wpAny (model X.prog X.w) X.A (call (.ref C) us kw) (L2.EP X pins σ Q) X.xe s1 := by
  refine wpAny_call (call_err T I1.kIn I1.nolimit room ha fun h' tk a t dx M => ?_)
  refine ⟨.ref a, eUp H1 a dx C f v, inv_two (o := exo a C (some dx)) (u := exd dx [(f, v)]) I1 M.keep M.new M.big M.ne (exo_ok M.obj) (exd_ok M.ns ?_), rfl, q a dx (I1.hok.fresh M.new) (I1.hok.fresh M.big) M.ne⟩
  exact relO_put (fs := []) rv fun g => True.intro
theorem pe_err {ta : TA} (T : ErrF X.K X.mg x f C fI) (room : X.A.depth + 1 < recursionLimit) (ha : PA X [e] ta) (hg : Gl X x) (hdb : (x == (PySem.Str.ofString "__debug__")) = false := by decide)
    (hs : starEach [e] X.env = (false, eval e X.env) :: starEach [] X.env := by rfl) (hpl : (backTo pos (starEach [] X.env)).any (·.1) = false := by rfl) : PE X (.Call (.Name x p) [e] [] pos) (tErr C f ta) := by
  refine ⟨fun pins s σ H Q I h => ?_⟩
  refine wpAny_Call_Name_kw (ld_glob I hg T.g ?_ hdb)
  refine PySem.W.callWith_K (h₀ := X.base) I.ok.mod.kin T.kp (thn (ha.run pos pins s σ H _ I h) fun us s1 hh => ?_) hs hpl
  obtain ⟨vs, H1, I1, r1, v, ev, q⟩ := hh
  subst ev
  refine ⟨I1.kIn, ?_⟩
  cases r1 with
  | cons rv rn =>
    cases rn
    exact err_back T I1 rv q room (.inl ⟨rfl, rfl⟩)
theorem pe_errK {ta : TA} (T : ErrF X.K X.mg x f C fI) (room : X.A.depth + 1 < recursionLimit) (ha : PK X [⟨some f, e, kpos⟩] ta) (hg : Gl X x) (hdb : (x == (PySem.Str.ofString "__debug__")) = false := by decide)
    (hall : (backToKw pos (keywordEach [⟨some f, e, kpos⟩] X.env)).all (·.1.isSome) = true := by rfl) (hks : (backToKw pos (keywordEach [⟨some f, e, kpos⟩] X.env)).filterMap (·.1) = [f] := by rfl)
    (hpl : ((backTo pos (starEach [] X.env)).any (·.1) || (backToKw pos (keywordEach [⟨some f, e, kpos⟩] X.env)).any (·.1.isNone)) = false := by rfl) : PE X (.Call (.Name x p) [] [⟨some f, e, kpos⟩] pos) (tErr C f ta) := by
  refine ⟨fun pins s σ H Q I h => ?_⟩
  refine wpAny_Call_Name_kw (ld_glob I hg T.g ?_ hdb)
  refine PySem.W.callWith_KW0 (h₀ := X.base) I.ok.mod.kin T.kp hall (thn (ha.run pos pins s σ H _ I h) fun us s1 hh => ?_) hpl
  obtain ⟨vs, H1, I1, r1, v, ev, q⟩ := hh
  subst ev
  refine ⟨I1.kIn, ?_⟩
  cases r1 with
  | cons rv rn =>
    cases rn
    rw [hks]
    exact err_back T I1 rv q room (.inr ⟨rfl, rfl⟩)
/-- C(), a class without an __init__ of its own -/
def tErr0 (C : Addr) : TE := fun σ H Q => ∀ a, H a = none → Q (.ref a) (upd H a (exo a C none))
theorem pe_err0 (T : ErrN X.K X.mg x C) (hg : Gl X x) (hdb : (x == (PySem.Str.ofString "__debug__")) = false := by decide) : PE X (.Call (.Name x p) [] [] pos) (tErr0 C) := by
  refine ⟨fun pins s σ H Q I h => ?_⟩
  refine wpAny_Call_Name_kw (ld_glob I hg T.g ?_ hdb)
  refine PySem.W.callWith_K0 I.kIn T.kp ?_
  show wpAny _ _ (call (.ref C) []) _ _ _
  obtain ⟨bm, N, nm, qn, bs, hdct, sn, sub, ab, col, dd, k0, k1, k2, k3, k5, mN, hC, hN, hni, O⟩ := exc_obj I.kIn T.new
  refine wpAny_call_exc_subT PySem.F.excBase_Exception O hC hN hni (fun h' a M => ?_) (by show 0 ≤ sizeLine; exact Nat.zero_le _)
  have hn : H a = none := I.hok.gone M.new
  obtain ⟨t, ht, _, _⟩ := M.there
  exact ⟨.ref a, upd H a (exo a C none), I.laidN M.keeps M.new hn (exo_ok ht), rfl, h a hn⟩
/-! raised: nothing of the error is told but its class -/
def tRais (C : Addr) (ta : TA) : L2.St → Hp → L2.XK → Prop := fun σ H Q => ta σ H fun vs H1 => ∃ v, vs = [v] ∧ ∀ d, Q (.ref C) (some d) H1
theorem pm_err {ta : TA} (T : ErrF X.K X.mg x f C fI) (room : X.A.depth + 1 < recursionLimit) (ha : PA X [e] ta) (hg : Gl X x) (hdb : (x == (PySem.Str.ofString "__debug__")) = false := by decide)
    (hs : starEach [e] X.env = (false, eval e X.env) :: starEach [] X.env := by rfl) (hpl : (backTo pos (starEach [] X.env)).any (·.1) = false := by rfl) : L2.PMk X (.Call (.Name x p) [e] [] pos) (tRais C ta) := by
  intro pins s σ H Q I h
  refine wpAny_Call_Name_kw (ld_glob I hg T.g ?_ hdb)
  refine PySem.W.callWith_K (h₀ := X.base) I.ok.mod.kin T.kp (thn (ha.run pos pins s σ H _ I h) fun us s1 hh => ?_) hs hpl
  obtain ⟨vs, H1, I1, r1, v, ev, q⟩ := hh
  subst ev
  refine ⟨I1.kIn, ?_⟩
  cases r1 with
  | cons rv rn =>
    cases rn
    refine wpAny_call (call_err T I1.kIn I1.nolimit room (.inl ⟨rfl, rfl⟩) fun h' tk a t dx M => ?_)
    have na : s1.heap.get? a = none := by
      cases z : s1.heap.get? a with
      | none => rfl
      | some o => exact absurd (Nat.lt_of_lt_of_le (Heap.lt_size z) M.new) (Nat.lt_irrefl _)
    exact ⟨a, _, _, s1, H1, .ref C, some dx, rfl, I1, M.keep, na, M.obj, ⟨rfl, rfl⟩, rfl, rfl, I1.hok.fresh M.new, rfl, I1.bare, L2.raises_own T.su T.ty, q dx⟩
theorem pm_err0 (T : ErrN X.K X.mg x C) (hg : Gl X x) (hdb : (x == (PySem.Str.ofString "__debug__")) = false := by decide) : L2.PMk X (.Call (.Name x p) [] [] pos) (fun _ H Q => Q (.ref C) none H) := by
  intro pins s σ H Q I h
  refine wpAny_Call_Name_kw (ld_glob I hg T.g ?_ hdb)
  refine PySem.W.callWith_K0 I.kIn T.kp ?_
  show wpAny _ _ (call (.ref C) []) _ _ _
  obtain ⟨bm, N, nm, qn, bs, hdct, sn, sub, ab, col, dd, k0, k1, k2, k3, k5, mN, hC, hN, hni, O⟩ := exc_obj I.kIn T.new
  refine wpAny_call_exc_subT PySem.F.excBase_Exception O hC hN hni (fun h' a M => ?_) (by show 0 ≤ sizeLine; exact Nat.zero_le _)
  exact L2.mk_of I M (L2.raises_own T.su T.ty) h (I.hok.gone M.new)
end
end Mine

set_option Elab.async false
set_option linter.all false
set_option maxRecDepth 100000
set_option maxHeartbeats 4000000
/-! Data of lists, tuples and small dicts as the abstract heap holds it, and its text. -/
namespace Mine
open PySem PySem.Spec L2
mutual
inductive DK (H : Hp) : V → PyData → Prop
  | non : DK H .non .none
  | bl (b : Bool) : DK H (.bl b) (.bool b)
  | int (i : Int) : DK H (.int i) (.int i)
  | str (x : Str) : DK H (.str x) (.str x)
  | lst {a : Addr} {xs : List V} {ds : List PyData} : H a = some (.lst xs) → DKs H xs ds → DK H (.ref a) (.list ds)
  | tup {a : Addr} {xs : List V} {ds : List PyData} : H a = some (.tup xs) → DKs H xs ds → DK H (.ref a) (.tuple ds)
  | dct0 {a : Addr} : H a = some (.dK []) → DK H (.ref a) (.dict [])
  | dct1 {a : Addr} {k : Str} {v : V} {d : PyData} : H a = some (.dK [(Sum.inr k, v)]) → DK H v d → DK H (.ref a) (.dict [(.str k, d)])
inductive DKs (H : Hp) : List V → List PyData → Prop
  | nil : DKs H [] []
  | cons {v : V} {vs : List V} {d : PyData} {ds : List PyData} : DK H v d → DKs H vs ds → DKs H (v :: vs) (d :: ds)
end
mutual
theorem DK.keeps {H H' : Hp} (k : ∀ b o, H b = some o → H' b = some o) : ∀ (d : PyData) (v : V), DK H v d → DK H' v d
  | .none, _, h => by cases h; exact .non
  | .bool b, _, h => by cases h; exact .bl b
  | .int i, _, h => by cases h; exact .int i
  | .str x, _, h => by cases h; exact .str x
  | .list ds, _, h => by
    cases h with
    | lst e r => exact .lst (k _ _ e) (DKs.keeps k ds _ r)
  | .tuple ds, _, h => by
    cases h with
    | tup e r => exact .tup (k _ _ e) (DKs.keeps k ds _ r)
  | .dict [], _, h => by
    cases h with
    | dct0 e => exact .dct0 (k _ _ e)
  | .dict [(kk, d)], _, h => by
    cases h with
    | dct1 e r => exact .dct1 (k _ _ e) (DK.keeps k d _ r)
  | .dict (_ :: _ :: _), _, h => by cases h
theorem DKs.keeps {H H' : Hp} (k : ∀ b o, H b = some o → H' b = some o) : ∀ (ds : List PyData) (vs : List V), DKs H vs ds → DKs H' vs ds
  | [], _, h => by cases h; exact .nil
  | d :: ds, _, h => by
    cases h with
    | cons h1 h2 => exact .cons (DK.keeps k d _ h1) (DKs.keeps k ds _ h2)
end
theorem DKs.len {H : Hp} : ∀ {vs : List V} {ds : List PyData}, DKs H vs ds → vs.length = ds.length
  | _, _, .nil => rfl
  | _, _, .cons _ r => by rw [List.length_cons, List.length_cons, r.len]
theorem DKs.snoc {H : Hp} {v : V} {d : PyData} (h : DK H v d) : ∀ {vs : List V} {ds : List PyData}, DKs H vs ds → DKs H (vs ++ [v]) (ds ++ [d])
  | _, _, .nil => .cons h .nil
  | _, _, .cons a r => .cons a (r.snoc h)

/-- what is asked of data that is shown: numbers of moderate size, a text of at most n signs, at most l deep -/
structure Shows (n l : Nat) (d : PyData) : Prop where
  ok : d.showable = true
  len : d.shown.length ≤ n
  dep : d.depth ≤ l

section
variable {prog : Program} {w : World} {X : Cx} {pins : List (Addr × Obj)} {σ : L2.St} {H : Hp} {s : Shared}
/-- reading, and the text under way -/
def Rk (prog : Program) (w : World) (h : Heap) (u : Value) (d : PyData) : Prop := (∃ as, Reads h u d as) ∧ ∃ bs, ReadAtMost h d.depth bs ∧ ReprK prog w bs h d.depth u d.shown
def Rks (prog : Program) (w : World) (h : Heap) (us : List Value) (ds : List PyData) : Prop := (∃ as, ReadsAll h us ds as) ∧ ∃ bs, ReadAtMost h (PyData.depthAll ds) bs ∧ ReprAllK prog w bs h (PyData.depthAll ds) us (PyData.shownAll ds)
theorem Rk.leaf {h : Heap} {u : Value} {d : PyData} {as : List Addr} (r : Reads h u d as) (i : ReprIs prog w u d.shown) : Rk prog w h u d := ⟨⟨_, r⟩, [], (fun _ z => nomatch z), .of_is i _ _ _⟩
theorem Rks.cons {h : Heap} {u : Value} {us : List Value} {d : PyData} {ds : List PyData} (a : Rk prog w h u d) (b : Rks prog w h us ds) : Rks prog w h (u :: us) (d :: ds) := by
  obtain ⟨⟨as, r1⟩, b1, m1, k1⟩ := a
  obtain ⟨⟨cs, r2⟩, b2, m2, k2⟩ := b
  refine ⟨⟨_, .cons r1 r2⟩, b1 ++ b2, ?_, ?_⟩
  · simp only [PyData.depthAll]
    exact (m1.mono (Nat.le_max_left _ _)).append (m2.mono (Nat.le_max_right _ _))
  · simp only [PyData.depthAll, PyData.shownAll]
    exact .cons ((k1.more fun _ z => List.mem_append_left _ z).level_le (Nat.le_max_left _ _)) (k2.more_le (fun _ z => List.mem_append_right _ z) (Nat.le_max_right _ _))
theorem Rk.list {h : Heap} {a : Addr} {o : Obj} {us : List Value} {n : Nat} {ds : List PyData} (h1 : h.get? a = some o) (h2 : o.cls = .type "list") (h3 : o.data = .seq us.toArray n) (r : Rks prog w h us ds) : Rk prog w h (.ref a) (.list ds) := by
  obtain ⟨⟨as, r⟩, bs, m, k⟩ := r
  have rd : Reads h (.ref a) (.list ds) (a :: as) := .list h1 h2 h3 r
  have out : a ∉ bs := not_mem_of_deeper rd (by simp only [PyData.depth]; omega) m
  refine ⟨⟨_, rd⟩, a :: bs, ReadAtMost.cons rd (by simp only [PyData.depth]; omega) m, ?_⟩
  simp only [PyData.depth, PyData.shown]
  cases us with
  | nil =>
    cases r
    simp only [PyData.shownAll, listText_nil]
    exact ReprK.listEmpty h1 h2 h3
  | cons x l => exact ReprK.list h1 h2 h3 out (by simpa using k.length_eq) fun i y e => k.item i y (by simpa using e)
theorem Rk.tuple {h : Heap} {a : Addr} {o : Obj} {us : List Value} {n : Nat} {ds : List PyData} (h1 : h.get? a = some o) (h2 : o.cls = .type "tuple") (h3 : o.data = .seq us.toArray n) (r : Rks prog w h us ds) : Rk prog w h (.ref a) (.tuple ds) := by
  obtain ⟨⟨as, r⟩, bs, m, k⟩ := r
  have rd : Reads h (.ref a) (.tuple ds) as := .tuple h1 h2 h3 r
  have out : a ∉ bs := not_mem_of_deeper rd (by simp only [PyData.depth]; omega) m
  refine ⟨⟨_, rd⟩, a :: bs, ReadAtMost.cons rd (by simp only [PyData.depth]; omega) m, ?_⟩
  simp only [PyData.depth, PyData.shown]
  exact ReprK.tuple h1 h2 h3 out k
theorem Rk.dict {h : Heap} {a : Addr} {o : Obj} {es : Array DictEntry} {n : Nat} {kvs : List (PyData × PyData)} (h1 : h.get? a = some o) (h2 : o.cls = .type "dict") (h3 : o.data = .dict es n) (h4 : (a == sysModules) = false)
    (rk : Rks prog w h (es.toList.map (·.key)) (kvs.map (·.1))) (rv : Rks prog w h (es.toList.map (·.val)) (kvs.map (·.2))) : Rk prog w h (.ref a) (.dict kvs) := by
  obtain ⟨⟨as, r1⟩, b1, m1, k1⟩ := rk
  obtain ⟨⟨cs, r2⟩, b2, m2, k2⟩ := rv
  have rd : Reads h (.ref a) (.dict kvs) _ := .dict h1 h2 h3 r1 r2
  have m : ReadAtMost h (PyData.depthKv kvs) (b1 ++ b2) := (m1.mono (PyData.depthAll_keys_le kvs)).append (m2.mono (PyData.depthAll_vals_le kvs))
  have out : a ∉ b1 ++ b2 := not_mem_of_deeper rd (by simp only [PyData.depth]; omega) m
  refine ⟨⟨_, rd⟩, a :: (b1 ++ b2), ReadAtMost.cons rd (by simp only [PyData.depth]; omega) m, ?_⟩
  simp only [PyData.depth, PyData.shown, PyData.shownKv_eq]
  exact ReprK.dict h1 h2 h3 h4 out (ReprEntriesK.of_two es.toList _ _ (k1.more_le (fun _ z => List.mem_append_left _ z) (PyData.depthAll_keys_le kvs)) (k2.more_le (fun _ z => List.mem_append_right _ z) (PyData.depthAll_vals_le kvs)))
mutual
theorem DK.rk (I : L2.Inv X pins σ H s) : ∀ (d : PyData) (v : V) (u : Value), DK H v d → L2.RelV v u → d.showable = true → d.shown.length ≤ sizeLine → Rk X.prog X.w s.heap u d
  | .none, _, _, h, r, _, _ => by
    cases h; cases r
    exact Rk.leaf .none (by simp only [PyData.shown]; exact ReprIs.none)
  | .bool b, _, _, h, r, _, _ => by
    cases h; cases r
    exact Rk.leaf (.bool b) (by simp only [PyData.shown]; exact ReprIs.bool b)
  | .int i, _, _, h, r, ok, _ => by
    cases h
    obtain ⟨t, rfl⟩ := r
    exact Rk.leaf (.int i t) (by simp only [PyData.shown]; exact ReprIs.int t (by simpa [PyData.showable] using ok))
  | .str x, _, _, h, r, _, hz => by
    cases h
    obtain ⟨t, rfl⟩ := r
    exact Rk.leaf (.str x t) (by simp only [PyData.shown]; exact ReprIs.str x t (by simpa only [PyData.shown] using hz))
  | .list ds, _, _, h, r, ok, hz => by
    cases h with
    | lst e r' =>
      cases r
      obtain ⟨_, its, n, rv, he⟩ := (show ObjOk X.prog X.w H s.heap _ (.lst _) from I.hok _ _ e)
      have hz' : (listText (PyData.shownAll ds)).length ≤ sizeLine := by simpa only [PyData.shown] using hz
      exact Rk.list he rfl rfl (DKs.rks I ds _ its r' rv (by simpa [PyData.showable] using ok) fun t ht => Nat.le_trans (listText_mem_le ht) hz')
  | .tuple ds, _, _, h, r, ok, hz => by
    cases h with
    | tup e r' =>
      cases r
      obtain ⟨_, its, rv, o, he, hc, n, hd⟩ := (show ObjOk X.prog X.w H s.heap _ (.tup _) from I.hok _ _ e)
      have hz' : (tupleText (PyData.shownAll ds)).length ≤ sizeLine := by simpa only [PyData.shown] using hz
      exact Rk.tuple he hc hd (DKs.rks I ds _ its r' rv (by simpa [PyData.showable] using ok) fun t ht => Nat.le_trans (tupleText_mem_le ht) hz')
  | .dict [], _, _, h, r, _, _ => by
    cases h with
    | dct0 e =>
      cases r
      obtain ⟨_, hs, vs, rel, o, es, ep, he, hx, hd, _, hp, _⟩ := (show ObjOk X.prog X.w H s.heap _ (.dK _) from I.hok _ _ e)
      cases rel
      have e0 : es.toList = [] := by
        cases q : es.toList with
        | nil => rfl
        | cons a b => rw [q] at hp; cases hp
      refine Rk.dict he hx.1 hd hs ?_ ?_
      all_goals
        rw [e0]
        exact ⟨⟨_, .nil⟩, [], (fun _ z => nomatch z), .nil⟩
  | .dict [(kk, d)], _, _, h, r, ok, hz => by
    cases h with
    | @dct1 a k v d e r' =>
      cases r
      obtain ⟨_, hs, vs, rel, o, es, ep, he, hx, hd, _, hp, _⟩ := (show ObjOk X.prog X.w H s.heap _ (.dK _) from I.hok _ _ e)
      have hz' : (dictText (PyData.shownKv [(.str k, d)])).length ≤ sizeLine := by simpa only [PyData.shown] using hz
      have ok' : PyData.showable (.str k) = true ∧ d.showable = true := by simpa [PyData.showable, PyData.showableKv] using ok
      have one : ∀ t ∈ PyData.shownKv [(.str k, d)], t.length ≤ sizeLine := fun t ht => Nat.le_trans (dictText_mem_le ht) hz'
      cases rel with
      | @cons p q _ _ pq rest =>
        cases rest
        obtain ⟨qk, qv⟩ := q
        obtain ⟨e1, rv⟩ := pq
        dsimp only at e1 rv
        subst e1
        obtain ⟨en, e0, ek, ev⟩ : ∃ en, es.toList = [en] ∧ keyIs (Sum.inr k) en.key = true ∧ en.val = qv := by
          cases q : es.toList with
          | nil => rw [q] at hp; cases hp
          | cons a b =>
            rw [q] at hp
            cases hp with
            | cons h1 h2 h3 =>
              cases h3
              exact ⟨a, rfl, h1, h2⟩
        obtain ⟨t, ek'⟩ := Value.isStrOf_shape (x := k) (v := en.key) ek
        have z1 : (PyData.shown (.str k)).length ≤ sizeLine := by
          obtain ⟨p, hp, hl⟩ := PyData.shownKv_key_le [(.str k, d)] (PyData.shown (.str k)) (by simp only [List.map_cons, PyData.shownAll]; exact List.mem_cons_self ..)
          exact Nat.le_trans hl (one p hp)
        have z2 : d.shown.length ≤ sizeLine := by
          obtain ⟨p, hp, hl⟩ := PyData.shownKv_val_le [(.str k, d)] d.shown (by simp only [List.map_cons, PyData.shownAll]; exact List.mem_cons_self ..)
          exact Nat.le_trans hl (one p hp)
        refine Rk.dict he hx.1 hd hs ?_ ?_
        · rw [e0]
          show Rks _ _ _ [en.key] [PyData.str k]
          rw [ek']
          exact Rks.cons (Rk.leaf (.str k t) (by simp only [PyData.shown]; exact ReprIs.str k t (by simpa only [PyData.shown] using z1))) ⟨⟨_, .nil⟩, [], (fun _ z => nomatch z), .nil⟩
        · rw [e0]
          show Rks _ _ _ [en.val] [d]
          rw [ev]
          exact Rks.cons (DK.rk I d v qv r' rv ok'.2 z2) ⟨⟨_, .nil⟩, [], (fun _ z => nomatch z), .nil⟩
  | .dict (_ :: _ :: _), _, _, h, _, _, _ => by cases h
theorem DKs.rks (I : L2.Inv X pins σ H s) : ∀ (ds : List PyData) (vs : List V) (us : List Value), DKs H vs ds → L2.Vals vs us → PyData.showableAll ds = true → (∀ t ∈ PyData.shownAll ds, t.length ≤ sizeLine) → Rks X.prog X.w s.heap us ds
  | [], _, _, h, r, _, _ => by
    cases h; cases r
    exact ⟨⟨_, .nil⟩, [], (fun _ z => nomatch z), .nil⟩
  | d :: ds, _, _, h, r, ok, hz => by
    have ok' : d.showable = true ∧ PyData.showableAll ds = true := by simpa [PyData.showableAll] using ok
    cases h with
    | cons h1 h2 =>
      cases r with
      | cons r1 r2 =>
        exact Rks.cons (DK.rk I d _ _ h1 r1 ok'.1 (hz _ (by simp only [PyData.shownAll]; exact List.mem_cons_self ..))) (DKs.rks I ds _ _ h2 r2 ok'.2 fun t ht => hz t (by simp only [PyData.shownAll]; exact List.mem_cons_of_mem _ ht))
end
end
/-- repr of a list -/
def rRepr : List V → Hp → VK → Prop := fun xs H Q => ∃ (a : Addr) (ds : List PyData), xs = [.ref a] ∧ DK H (.ref a) (.list ds) ∧ Shows sizeLine 20 (.list ds) ∧ Q (.str (PyData.shown (.list ds))) H
theorem call_reprD {X : Cx} (hg : X.A.guards = some []) (hu : X.A.units + 40 < cLine) : CallR X (.builtin "repr") rRepr := by
  intro pins s σ H xs us Q I r h
  obtain ⟨a, ds, rfl, hd, S, q⟩ := h
  obtain ⟨u, rfl, rv⟩ := vals1 r
  cases (show u = Value.ref a from rv)
  have rk : Rk X.prog X.w s.heap (.ref a) (.list ds) := DK.rk I (.list ds) (.ref a) (.ref a) hd rfl S.ok S.len
  cases hd with
  | lst e r' =>
    obtain ⟨_, its, n, rvs, he⟩ := (show ObjOk X.prog X.w H s.heap _ (.lst _) from I.hok _ _ e)
    have hz' : (listText (PyData.shownAll ds)).length ≤ sizeLine := by simpa only [PyData.shown] using S.len
    have rks := DKs.rks I ds _ its r' rvs (by simpa [PyData.showable] using S.ok) fun t ht => Nat.le_trans (listText_mem_le ht) hz'
    obtain ⟨⟨as, ra⟩, bs, m, k⟩ := rks
    have rd : Reads s.heap (.ref a) (.list ds) (a :: as) := .list he rfl rfl ra
    have out : a ∉ bs := not_mem_of_deeper rd (by simp only [PyData.depth]; omega) m
    have dep : PyData.depthAll ds + 1 ≤ 20 := by simpa only [PyData.depth] using S.dep
    have fin : ∀ h' u tk, (∀ b o, s.heap.get? b = some o → h'.get? b = some o) → L2.EP X pins σ Q (.str (PyData.shown (.list ds)) u) { s with heap := h', toks := tk } := fun h' u tk kp => ⟨.str _, H, I.kept kp, ⟨_, rfl⟩, q⟩
    refine call_repr_slot (by omega) ⟨_, he, rfl⟩ PySem.F.slot_list_repr.toG ?_
    cases its with
    | nil =>
      cases ra
      refine call_list_repr_empty ⟨_, he, rfl⟩ he rfl ⟨_, _, rfl, ?_⟩
      have e0 : PyData.shown (.list []) = ("[]" : Str) := by simp only [PyData.shown, PyData.shownAll, listText_nil]
      rw [← e0]
      exact fin _ _ _ fun _ _ z => z
    | cons x l =>
      refine call_list_reprK he rfl rfl out (by simpa using k.length_eq) (fun i y e => k.item i y (by simpa using e)) (A := X.A.in1) hg (fun b _ => Clear.nil b) (by show X.A.units + 1 + _ < _; omega) (fun _ _ z => z) (fun h' u tk kp => ⟨_, _, rfl, ?_⟩) hz'
      have e0 : PyData.shown (.list ds) = listText (PyData.shownAll ds) := by simp only [PyData.shown]
      rw [← e0]
      exact fin h' u tk kp
end Mine

set_option Elab.async false
set_option linter.all false
set_option maxRecDepth 100000
set_option maxHeartbeats 4000000
/-! Promises of defs that are called where nothing is being shown (no repr runs): so that they may show data themselves. -/
namespace Mine
open PySem PySem.Spec L2
/-- a def's promise, kept wherever no repr is under way -/
structure FnG (P : Program) (w : World) (K : PySem.W.Frag) (mg : Str → Option Value) (base : Heap) (k : Nat) (f : Addr) (fd : FuncData) (ps : List Str) (sp : L2.Sp) : Prop where
  len : ∀ vs H Q E, sp vs H Q E → vs.length = ps.length
  run : ∀ (A : Around) (outer : List Env) (s : Shared) (H : Hp) (args : Args) (us : List Value) (vs : List V) (Q : L2.VK) (E : L2.XK), L2.Room k A → A.guards = some [] → L2.Env0 P w K mg base A outer s H → BindsTo s fd args (ps.zip us) → L2.Vals vs us → sp vs H Q E →
    codeAny (model P w) A (.call (.ref f) args) (L2.CR L2.CX0 outer P w H s Q E) s
theorem fnG_of {P : Program} {w : World} {K : PySem.W.Frag} {mg : Str → Option Value} {base : Heap} {k : Nat} {x qual : Str} {st : Stmt} {f : Addr} {fd : FuncData} {N ps : List Str} {sp : L2.Sp} (F : Fun K x qual st f fd) (S : FnScope N ps (defScope st))
    (len : ∀ vs H Q E, sp vs H Q E → vs.length = ps.length)
    (body : ∀ (cdv : Value) (A : Around) (outer : List Env) (s : Shared) (H : Hp) (vs : List V) (Q : L2.VK) (E : L2.XK), L2.Room k (A.deeper (PyProof.Rows.envOfC qual (defScope st) s.heap.objs.size f cdv)) → (A.deeper (PyProof.Rows.envOfC qual (defScope st) s.heap.objs.size f cdv)).guards = some [] → sp vs H Q E →
      ∃ t, PSs (cxOf CX0 P w K mg base N qual (defScope st) f cdv A outer s H E).nox (defBody st) t ∧ t { nx := fun _ H' => Q .non H', rt := Q } (start N vs) H) : FnG P w K mg base (k + 1) f fd ps sp := by
  obtain ⟨oc, od, kV, doc, pm, an, cdv, ct, osl, rfl, lk, hcd⟩ := F.ex
  refine ⟨len, fun A outer s H args us vs Q E hr hg e0 hb r q => ?_⟩
  have inS : ∀ b o, base.get? b = some o → s.heap.get? b = some o := fun b o z => (e0.bs b o z).1
  have hl := len _ _ _ _ q
  have kinds : ∀ y ∈ ps.zip us, (defScope st).names.lookup y.1 = some .local ∨ ((defScope st).names.lookup y.1 = some .cell ∧ ((cellsFrom (s.heap.objs.size + 1) (defScope st).names []).lookup y.1).isSome = true) := by
    intro y hy
    obtain ⟨n, v⟩ := y
    rcases S.par n (List.of_mem_zip hy).1 with z | z
    · exact .inl z
    · exact .inr ⟨z, PySem.W.cellsFrom_some _ _ _ (.inl z)⟩
  have KX := e0.mod.kin.keeps inS
  refine codeAny_call_function hr.depth (KX _ _ lk) rfl S.co S.gen rfl (PySem.W.codeRec_of KX hcd) (hb _ _ _ _ ?_)
  refine wpAny_newFunctionEnv_cells S.kind kinds fun env he s1 x => ?_
  subst he
  refine ⟨(e0.mod.nolimit.keeps inS).keeps x.toInCall.keep, codeAny_func ?_⟩
  obtain ⟨t, ht, hq⟩ := body cdv A outer s H vs Q E (hr.deeper _) hg q
  have I := inv_start (CX := CX0) (E := E) S hr.hd e0 hl r x
  refine wpAny_mono (ht.nox.run [] s1 (start N vs) H _ I hq) (fun fl s' hs => ?_) fun _ _ z => z
  have done : ∀ {σ' : L2.St} {H' : Hp} {v : V} {u : Value}, L2.Inv (cxOf CX0 P w K mg base N qual (defScope st) f cdv A outer s H E) [] σ' H' s' → L2.RelV v u → Q v H' → L2.CE outer P w H s Q u s' :=
    fun J rv z => ⟨_, _, J.os, J.bare, J.base, J.hok, rv, z⟩
  cases fl with
  | ret u =>
    obtain ⟨v, σ', H', J, rv, z⟩ := hs
    exact done J rv z
  | next =>
    obtain ⟨σ', H', J, z⟩ := hs
    exact done (v := V.non) (u := Value.none) J rfl z
  | brk =>
    obtain ⟨_, _, _, z⟩ := hs
    exact False.elim z
  | cont =>
    obtain ⟨_, _, _, z⟩ := hs
    exact False.elim z
section
variable {X : Cx} {k : Nat} {f : Addr} {fd : FuncData} {ps : List Str} {sp : L2.Sp} {x : Str} {p pos : Pos} {e : Expr} {es : List Expr} {t : L2.TA}
/-- such a def called -/
def tCallG (sp : L2.Sp) (t : L2.TA) : L2.TE := fun σ H Q => t σ H fun vs H1 => sp vs H1 Q fun _ _ _ => False
theorem pe_callG (F : FnG X.prog X.w X.K X.mg X.base k f fd ps sp) (hr : L2.Room k X.A) (hgd : X.A.guards = some []) (hg : Gl X x) (hm : X.mg x = some (.ref f)) (hk : PySem.W.keepIn X.K (.ref f) = true) (hb : L2.Binds X.K fd ps [])
    (ha : L2.PA X (e :: es) t) (hdb : (x == (PySem.Str.ofString "__debug__")) = false := by decide) (he : starEach (e :: es) X.env = (false, eval e X.env) :: starEach es X.env := by rfl) (hpl : (backTo pos (starEach es X.env)).any (·.1) = false := by rfl) :
    L2.PE X (.Call (.Name x p) (e :: es) [] pos) (tCallG sp t) := by
  refine ⟨fun pins s σ H Q I h => ?_⟩
  refine wpAny_Call_Name_kw (ld_glob I hg hm ?_ hdb)
  refine PySem.W.callWith_K (h₀ := X.base) I.ok.mod.kin hk (thn (ha.run pos pins s σ H _ I h) fun us s1 ⟨vs, H1, I1, r, q⟩ => ⟨I1.kIn, ?_⟩) he hpl
  have hl : us.length = ps.length := by
    rw [← r.length]
    exact F.len _ _ _ _ q
  have b := hb s1 us I1.kIn (by rw [List.append_nil]; exact hl)
  rw [List.append_nil] at b
  refine wpAny_call (codeAny_mono (F.run X.A X.stack s1 H1 ⟨us, []⟩ us vs Q _ hr hgd I1.env0 b r q) fun r s' hq => ?_)
  cases r with
  | error e => exact pass0 pins σ H1 s1 e s' I1 hq
  | ok fl =>
    cases fl with
    | ret u => exact I1.after hq
    | next => exact False.elim hq
    | brk => exact False.elim hq
    | cont => exact False.elim hq
end
end Mine
namespace Mine
open PySem PySem.Spec PyProof.Rows L2
/-! the law's own end -/
section
variable {P : Program} {w : World} {K : PySem.W.Frag} {mg mb : Str → Option Value} {k : Nat} {fa a : Addr} {fd : FuncData} {x : Str} {sp : L2.Sp} {s₁ : Shared} {vs : List Value} {ns : List Int}
/-- what is asked of the law's call -/
def LawEnd (P : Program) (w : World) (fa a : Addr) (s₁ : Shared) : Prop :=
  codeAny (model P w) callerA (.call (.ref fa) ⟨[.ref a], []⟩) (fun r s' => r = .ok (.ret (.bool true)) ∧ OldK s₁.heap s'.heap ∧ s'.os = s₁.os ∧ AllBare s'.gens) s₁
theorem end_from (KX : K.In s₁.heap) (hns : s₁.heap.Ns mainGlobals mg) (hb : s₁.heap.Ns builtinsNs mb) (hbb : ∀ x : Str, x ≠ "__name__" → mb x = bootBuiltins x) (hlim : s₁.heap.NoLimit) (hg : s₁.gens = #[])
    (ha : s₁.heap.get? a = some { cls := .type "list", data := .seq vs.toArray }) (hr : L2.Room k callerA)
    (F : ∀ base : Heap, K.In base → base.Ns mainGlobals mg → FnG P w K mg base k fa fd [x] sp) (hbind : ∀ (s : Shared) (u : Value), BindsTo s fd ⟨[u], []⟩ [(x, u)])
    (H : Hp) (hO : L2.Only H) (ok : L2.HOk P w H s₁.heap) (at_ : ∀ b, H b ≠ none → b = a) (notK : H a ≠ none → K.lookup a = none) (hsp : sp [.ref a] H (fun v _ => v = .bl true) fun _ _ _ => False) : LawEnd P w fa a s₁ := by
  have free : ∀ {b : Addr} {o : Obj} {es : Array DictEntry} {ep : Nat}, s₁.heap.get? b = some o → o.data = .dict es ep → H b = none := by
    intro b o es ep e d
    cases q : H b with
    | none => rfl
    | some u =>
      have z : b = a := at_ b (by rw [q]; exact fun y => nomatch y)
      subst z
      rw [ha] at e
      cases e
      cases d
  have names : ∀ {b : Addr} {m : Str → Option Value}, s₁.heap.Ns b m → (hidT s₁.heap H).Ns b m := fun {b m} ⟨o, es, ep, e, d, r⟩ => ⟨o, es, ep, hidT_get e (free e d), d, r⟩
  have Kb : K.In (hidT s₁.heap H) := fun b o e => hidT_get (KX b o e) (by
    cases q : H b with
    | none => rfl
    | some u =>
      have z : b = a := at_ b (by rw [q]; exact fun y => nomatch y)
      subst z
      rw [notK (by rw [q]; exact fun y => nomatch y)] at e
      cases e)
  have hM : L2.Mod K mg (hidT s₁.heap H) := ⟨Kb, names hns, ⟨mb, names hb, hbb⟩, let ⟨mc, h1, h2⟩ := hlim; ⟨mc, names h1, h2⟩⟩
  have e0 : L2.Env0 P w K mg (hidT s₁.heap H) callerA [] s₁ H := ⟨rfl, hM, fun b o e => of_hidT e, Nat.le_of_eq (hidT_size _ _), trivial, fun b z => absurd (show b ∈ ([] : List Addr) from z) (by simp), ok, .of_eq hg⟩
  refine codeAny_mono ((F _ Kb (names hns)).run callerA [] s₁ H ⟨[.ref a], []⟩ [.ref a] [.ref a] _ _ hr rfl e0 (hbind s₁ (.ref a)) (.cons rfl .nil) hsp) fun r s' h => ?_
  rcases r with e | fl
  · exact False.elim h
  cases fl with
  | next => exact False.elim h
  | brk => exact False.elim h
  | cont => exact False.elim h
  | ret u =>
    obtain ⟨v, H', os, bare, un, ok', r', q⟩ := h
    obtain rfl : v = .bl true := q
    obtain rfl : u = Value.bool true := r'
    refine ⟨rfl, OldK.of_keep fun b o e => ?_, os, bare⟩
    cases q : H b with
    | none => exact un.keep b o e q (fun z => absurd (show b ∈ ([] : List Addr) from z) (by simp)) (by simp)
    | some u =>
      rcases hO b with z | ⟨ob, xs, z⟩
      · rw [q] at z
        cases z
      · obtain ⟨e1, _⟩ := ok b _ z
        obtain ⟨e2, _⟩ := ok' b _ (un.frzs b ob _ z)
        rw [e] at e1
        cases e1
        exact e2
theorem law_callG (KX : K.In s₁.heap) (hns : s₁.heap.Ns mainGlobals mg) (hb : s₁.heap.Ns builtinsNs mb) (hbb : ∀ x : Str, x ≠ "__name__" → mb x = bootBuiltins x) (hlim : s₁.heap.NoLimit) (hg : s₁.gens = #[])
    (ha : s₁.heap.get? a = some { cls := .type "list", data := .seq vs.toArray }) (hi : IntsAre vs ns) (hl : ns.length ≤ sizeLine) (hr : L2.Room k callerA)
    (F : ∀ base : Heap, K.In base → base.Ns mainGlobals mg → FnG P w K mg base k fa fd [x] sp) (hbind : ∀ (s : Shared) (u : Value), BindsTo s fd ⟨[u], []⟩ [(x, u)])
    (hsp : ∀ H : Hp, L2.Only H → SqL K H a (ns.map V.int) → sp [.ref a] H (fun v _ => v = .bl true) fun _ _ _ => False) : LawEnd P w fa a s₁ := by
  have rv := vals_ints hi
  have lenV := hi.length
  cases hk : K.lookup a with
  | some o =>
    have e := KX a o hk
    rw [ha] at e
    cases e
    have none_ : L2.Only (fun _ => none) := fun _ => .inl rfl
    exact end_from KX hns hb hbb hlim hg ha hr F hbind _ none_ (fun _ _ z => nomatch z) (fun _ z => absurd rfl z) (fun z => absurd rfl z)
      (hsp _ none_ (.inr ⟨_, vs.toArray, _, hk, rfl, rfl, rfl, by rw [List.size_toArray, lenV]; exact hl, by simpa using rv⟩))
  | none =>
    let H1 : Hp := fun b => if b = a then some (.frz { cls := .type "list", data := .seq vs.toArray } (.lst (ns.map V.int))) else none
    have at1 : H1 a = some (.frz { cls := .type "list", data := .seq vs.toArray } (.lst (ns.map V.int))) := if_pos rfl
    have ne1 : ∀ {b}, b ≠ a → H1 b = none := fun h => if_neg h
    have only1 : L2.Only H1 := fun b => by
      by_cases h : b = a
      · exact .inr ⟨_, _, by rw [h]; exact at1⟩
      · exact .inl (ne1 h)
    refine end_from KX hns hb hbb hlim hg ha hr F hbind H1 only1 (fun b u z => ?_) (fun b z => ?_) (fun _ => hk) (hsp _ only1 (.inl (.inr ⟨_, at1⟩)))
    · by_cases h : b = a
      · subst h
        rw [at1] at z
        cases z
        exact ⟨ha, by rw [List.length_map]; exact hl, vs, _, rv, ha⟩
      · rw [ne1 h] at z
        cases z
    · by_cases h : b = a
      · exact h
      · exact absurd (ne1 h) z
end
theorem walkG {l : PySem.W.OpenLaw} {n k : Nat} {q : Program} {loose : List Str} {XP : (Str → Option Value) → Heap → Prop} {YP : World → Heap → Prop} {d : DefRec} {K : Params → PySem.W.Frag} {sp : PySem.W.Frag → L2.Sp} {x : Str}
    (hn : l.most = some n) (hn2 : n ≤ sizeLine) (hdf : d.params.defaults = []) (hr : L2.Room k callerA) (hY : ∀ (w : World) (h : Heap), YP w h → (K w.params).In h)
    (F : ∀ (w : World) (mg : Str → Option Value) (fa : Addr) (h : Heap), (K w.params).In h → h.Ns mainGlobals mg → mg d.name = some (.ref fa) →
      ∃ fd : FuncData, (∀ (s : Shared) (u : Value), BindsTo s fd ⟨[u], []⟩ [(x, u)]) ∧ ∀ base : Heap, (K w.params).In base → base.Ns mainGlobals mg → FnG l.prog w (K w.params) mg base k fa fd [x] (sp (K w.params)))
    (hsp : ∀ (K : PySem.W.Frag) (H : Hp) (a : Addr) (ns : List Int), ns.length ≤ n → L2.Only H → SqL K H a (ns.map V.int) → sp K [.ref a] H (fun v _ => v = .bl true) fun _ _ _ => False) :
    PySem.W.WalkO q loose XP YP l.row.toRowW d [] (fun f vs => PySem.call f vs) := by
  refine Att.attach_call hn hdf fun w s₀ s₁ mg mb fa o pm cd doc a vs ns G Y ho hd hcd hmg hobj hints hlen hg => ?_
  have KX := hY w _ Y
  obtain ⟨fd, hb, hF⟩ := F w mg fa _ KX G.T.g hmg
  exact law_callG KX G.T.g G.T.b G.T.builtins G.T.nolimit hg hobj hints (Nat.le_trans hlen hn2) hr hF hb fun H hO hS => hsp (K w.params) H a ns hlen hO hS
end Mine

set_option Elab.async false
set_option linter.all false
set_option maxRecDepth 100000
set_option maxHeartbeats 4000000
/-! tuple(xs) as a plain tuple; dict(t) of a plain tuple of pairs. -/
namespace Mine
open PySem PySem.Spec PyProof.Rows L2
/-- a tuple that has no dict of its own -/
def TupN (K : PySem.W.Frag) (H : Hp) (a : Addr) (xs : List V) : Prop := (∃ o, H a = some (.frz o (.tup xs)) ∧ o.dict = none) ∨ (SqT K H a xs ∧ ∃ o, K.lookup a = some o ∧ o.dict = none)
theorem TupN.sq {K : PySem.W.Frag} {H : Hp} {a : Addr} {xs : List V} (h : TupN K H a xs) : SqT K H a xs := by
  rcases h with ⟨o, e, _⟩ | ⟨h, _⟩
  · exact .inl (.inr ⟨o, e⟩)
  · exact h
section
variable {X : Cx} {pins : List (Addr × Obj)} {σ : L2.St} {H : Hp} {s : Shared}
theorem call_tupleF : CallR X (.type "tuple") (fun xs H Q => ∃ p ys, xs = [.ref p] ∧ SqL X.K H p ys ∧ ∀ l o, H l = none → o.dict = none → Q (.ref l) (upd H l (.frz o (.tup ys)))) := by
  intro pins s σ H xs us Q I r h
  obtain ⟨p, ys, rfl, hq, q⟩ := h
  obtain ⟨u, rfl, rx⟩ := vals1 r
  cases rx
  obtain ⟨its, r', pl, hz⟩ := I.list hq
  have hlen := r'.length
  refine call_tuple_list pl.isList (fun h' kp => ?_) (by simp only [List.size_toArray] <;> omega)
  have I1 : L2.Inv X pins σ H { s with heap := h' } := I.kept (t' := s.toks) kp
  have I2 : L2.Inv X pins σ (upd H h'.objs.size (.frz { cls := .type "tuple", data := .seq its.toArray } (.tup ys))) { s with heap := h'.push { cls := .type "tuple", data := .seq its.toArray } } :=
    I1.laid (t' := s.toks) (fun b o e => Heap.get?_push_of_some _ e) (Nat.le_refl _) (show ObjOk X.prog X.w _ _ _ (.frz _ (.tup ys)) from ⟨Heap.get?_push_size _ rfl, hz, its, r', IsTup.new _ _⟩)
  exact ⟨.ref h'.objs.size, _, I2, rfl, q _ _ (I1.hok.fresh (Nat.le_refl _)) rfl⟩
theorem tupN_at {a : Addr} {xs : List V} (I : L2.Inv X pins σ H s) (h : TupN X.K H a xs) : ∃ (its : List Value) (o : Obj) (n : Nat), Vals xs its ∧ s.heap.get? a = some o ∧ o.cls = .type "tuple" ∧ o.dict = none ∧ o.data = .seq its.toArray n ∧ xs.length ≤ sizeLine := by
  rcases h with ⟨o, e, hd⟩ | ⟨h, o, hk, hd⟩
  · obtain ⟨g, hz, its, rv, o', ho, hc, n, hdat⟩ := (show ObjOk X.prog X.w H s.heap _ (.frz o (.tup xs)) from I.hok _ _ e)
    rw [g] at ho
    cases ho
    exact ⟨its, o, n, rv, g, hc, hd, hdat, hz⟩
  · obtain ⟨its, rv, ⟨o', ho, hc, n, hdat⟩, hz⟩ := I.tuple h
    have g := I.kIn a o hk
    rw [g] at ho
    cases ho
    exact ⟨its, o, n, rv, g, hc, hd, hdat, hz⟩
theorem pairs_all (I : L2.Inv X pins σ H s) : ∀ {ps : List Addr} {kvs : List (Key × V)}, Paired (fun p kv => SqT X.K H p [kV kv.1, kv.2]) ps kvs →
    ∃ L : List (Addr × Key × Value × Value), ps = L.map (·.1) ∧ KV kvs (L.map fun x => (x.2.1, x.2.2.2)) ∧ ∀ x ∈ L, IsTup s.heap x.1 #[x.2.2.1, x.2.2.2] ∧ keyIs x.2.1 x.2.2.1 = true
  | _, _, .nil => ⟨[], rfl, .nil, fun _ z => (List.not_mem_nil z).elim⟩
  | _, _, .cons (a := p) (b := kv) h t => by
    obtain ⟨L, e, r, hp⟩ := pairs_all I t
    obtain ⟨its, rv, ht, _⟩ := I.tuple h
    obtain ⟨u, y, ei, ru, ry⟩ := vals2 rv
    subst ei
    refine ⟨(p, kv.1, u, y) :: L, by rw [e]; rfl, .cons ⟨rfl, ry⟩ r, fun x hx => ?_⟩
    rcases List.mem_cons.mp hx with rfl | hx
    · exact ⟨ht, kV_is (P := X.prog) (w := X.w) ru⟩
    · exact hp x hx
theorem call_dictPT (hcalm : X.calm = true) : CallR X (.type "dict") (fun xs H Q => ∃ (a : Addr) (ps : List Addr) (kvs : List (Key × V)), xs = [.ref a] ∧ TupN X.K H a (ps.map V.ref) ∧ Paired (fun p kv => SqT X.K H p [kV kv.1, kv.2]) ps kvs ∧
    ∀ p, H p = none → Q (.ref p) (upd H p (.dK (mergeK [] kvs)))) := by
  intro pins s σ H xs us Q I r q
  obtain ⟨a, ps, kvs, ex, hq, hp, q⟩ := q
  subst ex
  obtain ⟨u, eu, rx⟩ := vals1 r
  subst eu
  cases rx
  obtain ⟨its, o, n, rv, ho, hc, hd, hdat, hz⟩ := tupN_at I hq
  have ei := refs_at rv
  subst ei
  rw [List.length_map] at hz
  obtain ⟨L, el, rel, hL⟩ := pairs_all I hp
  subst el
  rw [List.length_map] at hz
  have ok : PlainSeq "tuple" s.heap a ((L.map (·.1)).map Value.ref).toArray ∧ PairItems s.heap ((L.map (·.1)).map Value.ref).toArray (fun j => (L.map (·.1)).getD j 0) (L.map fun x => (x.2.2.1, x.2.2.2)) := by
    refine ⟨⟨o, n, ho, hc, hd, hdat⟩, by simp, fun j k v e => ?_⟩
    rw [List.getElem?_map] at e
    obtain ⟨x, hx, e⟩ := Option.map_eq_some_iff.mp e
    cases e
    have hj : (L.map (·.1))[j]? = some x.1 := by rw [List.getElem?_map, hx]; rfl
    refine ⟨by simp [hx, List.getD], .inl ?_⟩
    have : (L.map (·.1)).getD j 0 = x.1 := by rw [List.getD, hj]; rfl
    show s.heap.IsTuple ((L.map (·.1)).getD j 0) #[x.2.2.1, x.2.2.2]
    rw [this]
    exact (hL x (List.mem_of_getElem? hx)).1
  have hv : PairsHave (mixKind X.prog X.w) (L.map fun x => (x.2.2.1, x.2.2.2)).length (PairRel (L.map fun x => (x.2.2.1, x.2.2.2))) (L.map fun x => (x.2.1, x.2.2.2)) := by
    refine ⟨by simp, fun i key v e => ?_⟩
    have e : (L.map fun x => (x.2.2.1, x.2.2.2))[i]? = some (key, v) := e
    rw [List.getElem?_map] at e
    obtain ⟨x, hx, e⟩ := Option.map_eq_some_iff.mp e
    cases e
    exact ⟨x.2.1, by rw [List.getElem?_map, hx]; rfl, (hL x (List.mem_of_getElem? hx)).2⟩
  refine PySem.call_dict_pairs (PairArg.tuple a _ _ _) (I.ok.hd hcalm) ok hv (by rw [List.length_map]; exact hz) fun h' tk hd' k => ?_
  have hm : (s.heap.objs.size == sysModules) = false := beq_eq_false_iff_ne.mpr (Nat.ne_of_gt I.big)
  have hlen : (mergeK [] kvs).length ≤ sizeLine := by
    refine Nat.le_trans (length_mergeK kvs []) ?_
    rw [List.length_nil, Nat.zero_add, rel.length, List.length_map]
    exact hz
  exact ⟨.ref s.heap.objs.size, upd H s.heap.objs.size (.dK (mergeK [] kvs)), I.laid (t' := tk) (fun b o e => k b o (List.not_mem_nil) e) (Nat.le_refl _) (show ObjOk X.prog X.w _ _ _ (.dK (mergeK [] kvs)) from ⟨hlen, hm, merged [] _, KV.merge rel .nil, hd'⟩), rfl, q _ (I.hok.fresh (Nat.le_refl _))⟩
end
end Mine

set_option Elab.async false
set_option linter.all false
set_option maxRecDepth 100000
set_option maxHeartbeats 4000000
/-! The text of a list in which plain tuples stand, too. -/
namespace Mine
open PySem PySem.Spec PyProof.Rows L2
/-- a plain tuple -/
def Fz (H : Hp) (a : Addr) (xs : List V) : Prop := ∃ o, H a = some (.frz o (.tup xs)) ∧ o.dict = none
theorem Fz.sq {K : PySem.W.Frag} {H : Hp} {a : Addr} {xs : List V} (h : Fz H a xs) : SqT K H a xs := let ⟨o, e, _⟩ := h; .inl (.inr ⟨o, e⟩)
theorem Fz.n {K : PySem.W.Frag} {H : Hp} {a : Addr} {xs : List V} (h : Fz H a xs) : TupN K H a xs := .inl h
theorem Fz.upd {H : Hp} {a q : Addr} {xs : List V} {o : HO} (h : Fz H a xs) (hq : H q = none) : Fz (upd H q o) a xs := let ⟨o', e, d⟩ := h; ⟨o', (upd_ne (ne_of_none e hq)).trans e, d⟩
inductive DZ (H : Hp) : V → PyData → Prop
  | dk {v : V} {d : PyData} : DK H v d → DZ H v d
  | fz {a : Addr} {xs : List V} {ds : List PyData} : Fz H a xs → DKs H xs ds → DZ H (.ref a) (.tuple ds)
inductive DZs (H : Hp) : List V → List PyData → Prop
  | nil : DZs H [] []
  | cons {v : V} {vs : List V} {d : PyData} {ds : List PyData} : DZ H v d → DZs H vs ds → DZs H (v :: vs) (d :: ds)
section
variable {X : Cx} {pins : List (Addr × Obj)} {σ : L2.St} {H : Hp} {s : Shared}
theorem DZ.rk (I : L2.Inv X pins σ H s) {d : PyData} {v : V} {u : Value} (h : DZ H v d) (r : L2.RelV v u) (ok : d.showable = true) (hz : d.shown.length ≤ sizeLine) : Rk X.prog X.w s.heap u d := by
  cases h with
  | dk h => exact DK.rk I d v u h r ok hz
  | @fz a xs ds f r' =>
    obtain ⟨o, e, _⟩ := f
    cases r
    obtain ⟨_, _, its, rv, o, he, hc, n, hd⟩ := (show ObjOk X.prog X.w H s.heap _ (.frz _ (.tup _)) from I.hok _ _ e)
    have hz' : (tupleText (PyData.shownAll ds)).length ≤ sizeLine := by simpa only [PyData.shown] using hz
    exact Rk.tuple he hc hd (DKs.rks I ds _ its r' rv (by simpa [PyData.showable] using ok) fun t ht => Nat.le_trans (tupleText_mem_le ht) hz')
theorem DZs.rks (I : L2.Inv X pins σ H s) : ∀ (ds : List PyData) (vs : List V) (us : List Value), DZs H vs ds → L2.Vals vs us → PyData.showableAll ds = true → (∀ t ∈ PyData.shownAll ds, t.length ≤ sizeLine) → Rks X.prog X.w s.heap us ds
  | [], _, _, h, r, _, _ => by
    cases h; cases r
    exact ⟨⟨_, .nil⟩, [], (fun _ z => nomatch z), .nil⟩
  | d :: ds, _, _, h, r, ok, hz => by
    have ok' : d.showable = true ∧ PyData.showableAll ds = true := by simpa [PyData.showableAll] using ok
    cases h with
    | cons h1 h2 =>
      cases r with
      | cons r1 r2 =>
        exact Rks.cons (DZ.rk I h1 r1 ok'.1 (hz _ (by simp only [PyData.shownAll]; exact List.mem_cons_self ..))) (DZs.rks I ds _ _ h2 r2 ok'.2 fun t ht => hz t (by simp only [PyData.shownAll]; exact List.mem_cons_of_mem _ ht))
end
/-- repr of a list -/
def rReprZ : List V → Hp → VK → Prop := fun xs H Q => ∃ (a : Addr) (vs : List V) (ds : List PyData), xs = [.ref a] ∧ H a = some (.lst vs) ∧ DZs H vs ds ∧ Shows sizeLine 20 (.list ds) ∧ Q (.str (PyData.shown (.list ds))) H
theorem call_reprZ {X : Cx} (hg : X.A.guards = some []) (hu : X.A.units + 40 < cLine) : CallR X (.builtin "repr") rReprZ := by
  intro pins s σ H xs us Q I r h
  obtain ⟨a, vs, ds, rfl, e, r', S, q⟩ := h
  obtain ⟨u, rfl, rv⟩ := vals1 r
  cases (show u = Value.ref a from rv)
  obtain ⟨_, its, n, rvs, he⟩ := (show ObjOk X.prog X.w H s.heap _ (.lst _) from I.hok _ _ e)
  have hz' : (listText (PyData.shownAll ds)).length ≤ sizeLine := by simpa only [PyData.shown] using S.len
  have rks := DZs.rks I ds _ its r' rvs (by simpa [PyData.showable] using S.ok) fun t ht => Nat.le_trans (listText_mem_le ht) hz'
  obtain ⟨⟨as, ra⟩, bs, m, k⟩ := rks
  have rd : Reads s.heap (.ref a) (.list ds) (a :: as) := .list he rfl rfl ra
  have out : a ∉ bs := not_mem_of_deeper rd (by simp only [PyData.depth]; omega) m
  have dep : PyData.depthAll ds + 1 ≤ 20 := by simpa only [PyData.depth] using S.dep
  have fin : ∀ h' u tk, (∀ b o, s.heap.get? b = some o → h'.get? b = some o) → L2.EP X pins σ Q (.str (PyData.shown (.list ds)) u) { s with heap := h', toks := tk } := fun h' u tk kp => ⟨.str _, H, I.kept kp, ⟨_, rfl⟩, q⟩
  refine call_repr_slot (by omega) ⟨_, he, rfl⟩ PySem.F.slot_list_repr.toG ?_
  cases its with
  | nil =>
    cases ra
    refine call_list_repr_empty ⟨_, he, rfl⟩ he rfl ⟨_, _, rfl, ?_⟩
    have e0 : PyData.shown (.list []) = ("[]" : Str) := by simp only [PyData.shown, PyData.shownAll, listText_nil]
    rw [← e0]
    exact fin _ _ _ fun _ _ z => z
  | cons x l =>
    refine call_list_reprK he rfl rfl out (by simpa using k.length_eq) (fun i y e => k.item i y (by simpa using e)) (A := X.A.in1) hg (fun b _ => Clear.nil b) (by show X.A.units + 1 + _ < _; omega) (fun _ _ z => z) (fun h' u tk kp => ⟨_, _, rfl, ?_⟩) hz'
    have e0 : PyData.shown (.list ds) = listText (PyData.shownAll ds) := by simp only [PyData.shown]
    rw [← e0]
    exact fin h' u tk kp
end Mine

set_option Elab.async false
set_option linter.all false
set_option maxRecDepth 100000
set_option maxHeartbeats 4000000
/-! o.m(k1 = .., k2 = ..) of a method with two parameters, named the other way round. -/
namespace Mine
open PySem PySem.Spec PyProof.Rows L2
section
variable {X : Cx} {k : Nat} {f C : Addr} {fd : FuncData} {ps : List Str} {sp : L2.Sp} {m k1 k2 : Str} {pos apos : Pos} {o : Expr} {kws : List Keyword} {ta : TE} {tk : TA}
def tMethK2 (C : Addr) (m : Str) (sp : L2.Sp) (ta : TE) (tk : TA) : TE := fun σ H Q => ta σ H fun x H1 => ∃ a dx fs, x = .ref a ∧ H1 a = some (.ins C dx fs) ∧ fs.lookup m = none ∧ tk σ H1 fun zs H2 => ∃ u v, zs = [u, v] ∧ sp [x, v, u] H2 Q E0
theorem pe_methK2 {pl : Sem Bool} (he : PE X o ta) (c : Cls X.K C) (hm : Meth X.K C m f) (F : FnOk X.prog X.w X.K X.mg X.base CX0 k f fd ps sp) (hr : Room k X.A) (hps : ps.length = 3)
    (hb : ∀ (s : Shared) (a u v : Value), BindsTo s fd ⟨[a], [(k1, u), (k2, v)]⟩ (ps.zip [a, v, u])) (hkw : PK X kws tk)
    (hall : (backToKw pos (keywordEach kws X.env)).all (·.1.isSome) = true := by rfl) (hks : (backToKw pos (keywordEach kws X.env)).filterMap (·.1) = [k1, k2] := by rfl)
    (hpl : ((backTo pos (starEach [] X.env)).any (·.1) || (backToKw pos (keywordEach kws X.env)).any (·.1.isNone)) = false := by rfl)
    (ht : eval (.Call (.Attribute o m apos) [] kws pos) X.env = (do
      let ov ← eval o X.env
      standAt apos.atName
      let (f, first) ← holding [ov] (getMethod ov m pl)
      callWith pos f first (backTo pos (starEach [] X.env)) (backToKw pos (keywordEach kws X.env))) := by rfl) :
    PE X (.Call (.Attribute o m apos) [] kws pos) (tMethK2 C m sp ta tk) := by
  refine ⟨fun pins s σ H Q I h => ?_⟩
  refine PySem.W.methodCall_KW (pl := pl) (thn (he.run pins s σ H _ I h) fun u s1 ⟨x, H1, I1, rx, a, dx, fs, ex, ea, l, q⟩ => ?_) ht
  subst ex
  obtain rfl : u = Value.ref a := rx
  refine getmeth_ok I1 ea c hm l ?_
  refine PySem.W.callWith_KW0 (first := [.ref a]) (h₀ := X.base) I.ok.mod.kin hm.kp hall ?_ hpl
  refine thn (hkw.run pos pins s1 σ H1 _ I1 q) fun ws s2 ⟨zs, H2, I2, rz, uu, vv, ez, q2⟩ => ⟨I2.kIn, ?_⟩
  subst ez
  obtain ⟨w1, w2, ew, r1, r2⟩ := vals2 rz
  subst ew
  rw [hks]
  show wpAny _ _ (call (.ref f) [.ref a] [(k1, w1), (k2, w2)]) _ _ _
  refine wpAny_call (codeAny_mono (F.run X.A X.stack s2 H2 ⟨[.ref a], [(k1, w1), (k2, w2)]⟩ [.ref a, w2, w1] [.ref a, vv, uu] Q E0 hr I2.env0 (hb s2 (.ref a) w1 w2) (.cons rfl (.cons r2 (.cons r1 .nil))) q2) fun r s' hq => ?_)
  cases r with
  | error e => exact pass0 pins σ H2 s2 e s' I2 hq
  | ok fl =>
    cases fl with
    | ret u => exact I2.after hq
    | next => exact False.elim hq
    | brk => exact False.elim hq
    | cont => exact False.elim hq
end
end Mine

set_option Elab.async false
set_option linter.all false
set_option maxRecDepth 100000
set_option maxHeartbeats 4000000
/-! The deck: its cells, the mixed number, how many draws; a draw lies below what is asked. -/
namespace K06
open PySem PySem.Spec PyProof.Rows L2 Mine
def top (i : Nat) : Stmt := PySem.Challenge.pw_sealedalike_k06_texts_of_books.main.body.getD i (.Pass ⟨0, 0, 0, 0⟩)
abbrev sDeck : Stmt := top 30
abbrev sDraw : Stmt := top 31
def deckD (dl : Addr) (m t : Int) : List (Key × V) := [(Sum.inr (PySem.Str.ofString "cells"), .ref dl), (Sum.inr (PySem.Str.ofString "mixed"), .int m), (Sum.inr (PySem.Str.ofString "draws"), .int t)]
theorem neCM : ¬ (Sum.inr (PySem.Str.ofString "cells") : Key) = Sum.inr (PySem.Str.ofString "mixed") := by decide +kernel
theorem neCD : ¬ (Sum.inr (PySem.Str.ofString "cells") : Key) = Sum.inr (PySem.Str.ofString "draws") := by decide +kernel
theorem neMD : ¬ (Sum.inr (PySem.Str.ofString "mixed") : Key) = Sum.inr (PySem.Str.ofString "draws") := by decide +kernel
theorem vC {dl : Addr} {m t : Int} : valV (deckD dl m t) (Sum.inr (PySem.Str.ofString "cells")) = some (.ref dl) := valV_pos rfl
theorem vM {dl : Addr} {m t : Int} : valV (deckD dl m t) (Sum.inr (PySem.Str.ofString "mixed")) = some (.int m) := (valV_neg neCM).trans (valV_pos rfl)
theorem vD {dl : Addr} {m t : Int} : valV (deckD dl m t) (Sum.inr (PySem.Str.ofString "draws")) = some (.int t) := (valV_neg neCD).trans ((valV_neg neMD).trans (valV_pos rfl))
theorem pD {dl : Addr} {m t u : Int} : putK (deckD dl m t) (Sum.inr (PySem.Str.ofString "draws")) (.int u) = deckD dl m u := by
  have h1 := neCD
  have h2 := neMD
  have e1 : ¬ PySem.Str.ofString "cells" = PySem.Str.ofString "draws" := fun q => h1 (congrArg Sum.inr q)
  have e2 : ¬ PySem.Str.ofString "mixed" = PySem.Str.ofString "draws" := fun q => h2 (congrArg Sum.inr q)
  unfold putK deckD
  simp [e1, e2]
theorem gC {H : Hp} {dk dl : Addr} {m t : Int} (h : H dk = some (.dK (deckD dl m t))) : DGet H dk (.str (PySem.Str.ofString "cells")) (some (.ref dl)) := by
  have q := DGet.k (k := Sum.inr (PySem.Str.ofString "cells")) h
  rw [vC] at q
  exact q
theorem gM {H : Hp} {dk dl : Addr} {m t : Int} (h : H dk = some (.dK (deckD dl m t))) : DGet H dk (.str (PySem.Str.ofString "mixed")) (some (.int m)) := by
  have q := DGet.k (k := Sum.inr (PySem.Str.ofString "mixed")) h
  rw [vM] at q
  exact q
theorem gD {H : Hp} {dk dl : Addr} {m t : Int} (h : H dk = some (.dK (deckD dl m t))) : DGet H dk (.str (PySem.Str.ofString "draws")) (some (.int t)) := by
  have q := DGet.k (k := Sum.inr (PySem.Str.ofString "draws")) h
  rw [vD] at q
  exact q
theorem ppD {H : Hp} {dk dl : Addr} {m t u : Int} (h : H dk = some (.dK (deckD dl m t))) : DPut H dk (.str (PySem.Str.ofString "draws")) (.int u) (upd H dk (.dK (deckD dl m u))) := by
  have q := DPut.k (k := Sum.inr (PySem.Str.ofString "draws")) (v := .int u) h (by show 3 < sizeLine; decide)
  rw [pD] at q
  exact q
/-- the deck stands at dk, its cells at dl, after t draws -/
structure DeckAt (H : Hp) (dk dl : Addr) (t : Int) : Prop where
  d : ∃ m, H dk = some (.dK (deckD dl m t)) ∧ 0 ≤ m ∧ m < 2147483587
  l : ∃ cs : List Int, H dl = some (.lst (cs.map V.int)) ∧ cs.length ≤ 63
/-- all but the deck stands -/
def Keep (dk dl : Addr) (H H' : Hp) : Prop := ∀ b o, b ≠ dk → b ≠ dl → H b = some o → H' b = some o
def spDraw : Sp := fun vs H Q _ => ∃ (dk dl : Addr) (b t : Int), vs = [.ref dk, .int b] ∧ DeckAt H dk dl t ∧ 1 ≤ b ∧ b ≤ 1000 ∧ 0 ≤ t ∧ t ≤ 100000 ∧
  ∀ (r : Int) (H' : Hp), 0 ≤ r → r < b → DeckAt H' dk dl (t + 1) → Keep dk dl H H' → Q (.int r) H'
structure TxtD (mg : Str → Option Value) : Prop where
  int : mg "int" = none
  lst : mg "list" = none
theorem ints_dp {H : Hp} {K : PySem.W.Frag} : ∀ cs : List Int, DpAll K H (cs.map V.int) (cs.map PyData.int)
  | [] => .nil
  | c :: cs => .cons (.int c) (ints_dp cs)
theorem ints_lay : ∀ cs : List Int, PyData.canLayAll0 (cs.map PyData.int) = true
  | [] => by simp [PyData.canLayAll0]
  | c :: cs => by simp [PyData.canLayAll0, PyData.canLay0, ints_lay cs]
theorem ints_dep : ∀ cs : List Int, PyData.depthAll (cs.map PyData.int) = 0
  | [] => by simp [PyData.depthAll]
  | c :: cs => by simp [PyData.depthAll, PyData.depth, ints_dep cs]
theorem ints_shaped (cs : List Int) : SeqAt.shaped (.list (cs.map PyData.int)) = true := by
  show (PyData.canLay0 (.list (cs.map PyData.int)) && decide (PyData.depth (.list (cs.map PyData.int)) ≤ 64)) = true
  rw [Bool.and_eq_true]
  refine ⟨by simp only [PyData.canLay0]; exact ints_lay cs, decide_eq_true ?_⟩
  simp only [PyData.depth, ints_dep]
  decide
section
variable {P : Program} {w : World} {K : PySem.W.Frag} {mg : Str → Option Value} {base : Heap}
theorem scDraw : FnScope ["_law_deck_here", "_law_below", "_law_turn", "_law_cell", "_law_figure"] ["_law_deck_here", "_law_below"] (defScope sDraw) := ⟨rfl, rfl, rfl, by decide +kernel, rfl, by decide +kernel, by decide +kernel⟩
theorem ok_draw {f : Addr} {fd : FuncData} (F : Fun K "_law_draw" "_law_draw" sDraw f fd) (T : TxtD mg) : FnOk P w K mg base CX0 1 f fd ["_law_deck_here", "_law_below"] spDraw := by
  refine F.ok scDraw (fun vs H Q E h => ?_) (fun cdv A outer s H vs Q E hr h => ?_)
  · obtain ⟨dk, dl, b, t, rfl, _⟩ := h
    rfl
  · obtain ⟨dk, dl, b, t, rfl, ⟨⟨m, hd, m0, m1⟩, ⟨cs, hl, hcs⟩⟩, b1, b2, t0, t1, k⟩ := h
    have hu := hu_of hr
    have ne : dk ≠ dl := ne_of hd hl (by intro z; cases z)
    have em : ∀ (i j : Int), 0 < j → 0 ≤ i % j ∧ i % j < j := fun i j h => ⟨Int.emod_nonneg i (Int.ne_of_gt h), Int.emod_lt_of_pos i h⟩
    -- the last three statements
    have tail : ∃ tl, PSs (cxOf CX0 P w K mg base ["_law_deck_here", "_law_below", "_law_turn", "_law_cell", "_law_figure"] "_law_draw" (defScope sDraw) f cdv A outer s H E).nox ((defBody sDraw).drop 3) tl ∧
        ∀ (c : Int) (v : Option V) (H2 : Hp), DeckAt H2 dk dl (t + 1) → Keep dk dl H H2 → tl { nx := fun _ H' => Q .non H', rt := Q } [some (.ref dk), some (.int b), some (.int (t + 1)), some (.int c), v] H2 := by
      refine ⟨_, pss_cons (ps_set (i := 4) scDraw.nd rfl (.inl rfl) (pe_op op_mod (pe_op op_mul (pe_callTy call_int1 (by rfl) T.int (by decide +kernel) (pa_cons (pe_op op_add (pe_op op_add (pe_op op_mod (pe_callTy call_int1 (by rfl) T.int (by decide +kernel) (pa_cons (pv 3) pa_nil)) pe_int) (pe_op op_mul (pe_op op_mul pe_int (pv 2)) (pv 2))) pe_int) pa_nil)) pe_int) pe_int))
        (pss_cons (ps_set (i := 4) scDraw.nd rfl (.inl rfl) (pe_op op_mod (pe_callTy call_int1 (by rfl) T.int (by decide +kernel) (pa_cons (pe_op op_add (pe_op op_add (pe_op op_mul (pv 4) (pv 4)) (pe_op op_mul pe_int (pv 2))) pe_int) pa_nil)) pe_int))
        (pss_one (ps_ret (pe_op op_mod (pe_op op_fdiv (pe_op op_mod (pe_callTy call_int1 (by rfl) T.int (by decide +kernel) (pa_cons (pe_op op_mul (pv 4) pe_int) pa_nil)) pe_int) pe_int) (pv 1))))), ?_⟩
      intro c v H2 hD hK
      have u1 : CMul 60712 (t + 1) := .inl ⟨by decide, by decide⟩
      refine ⟨_, rfl, .inl ⟨_, rfl, _, _, rfl, rfl, (by decide : (0 : Int) < 2147483629), _, rfl, _, _, rfl, rfl, u1, _, rfl, _, _, rfl, rfl, .inr ⟨by omega, by omega⟩, _, _, rfl, rfl, _, _, rfl, rfl, .inl ⟨_, rfl, _, _, rfl, rfl, .inr ⟨by decide, by decide⟩, _, _, rfl, rfl, (by decide : (0 : Int) < 2147483647), ?_⟩⟩⟩
      have b3 := em ((c % 2147483629 + 60712 * (t + 1) * (t + 1) + 69) * 40692) 2147483647 (by decide)
      refine ⟨_, rfl, _, rfl, _, _, rfl, rfl, .inl ⟨Int.lt_of_lt_of_le (by decide) b3.1, Int.lt_trans b3.2 (by decide)⟩, _, rfl, _, _, rfl, rfl, .inl ⟨by decide, by decide⟩, _, _, rfl, rfl, _, _, rfl, rfl, .inl ⟨_, rfl, _, _, rfl, rfl, (by decide : (0 : Int) < 2147483579), ?_⟩⟩
      refine ⟨_, rfl, _, _, rfl, rfl, .inr ⟨by decide, by decide⟩, .inl ⟨_, rfl, _, _, rfl, rfl, (by decide : (0 : Int) < 2147483563), _, _, rfl, rfl, ⟨by decide, by decide⟩, _, rfl, _, _, rfl, rfl, (by omega : (0 : Int) < b), ?_⟩⟩
      exact k _ _ (em _ b (by omega)).1 (em _ b (by omega)).2 hD hK
    obtain ⟨tl, htl, ptl⟩ := tail
    refine ⟨_, pss_cons (ps_dput hu (pv 0) pe_str (pe_op op_add (pe_dget hu (pv 0) pe_str (fun _ _ => rfl)) pe_int) rfl)
      (pss_cons (ps_par (i := 2) (j := 3) rfl scDraw.nd rfl rfl (by decide) rfl rfl (pa_cons (pe_dget hu (pv 0) pe_str (fun _ _ => rfl)) (pa_cons (pe_dget hu (pv 0) pe_str (fun _ _ => rfl)) pa_nil)) (by rfl))
      (pss_cons (ps_if (pt_cmpR (op_neD hr.units) (pe_dget hu (pv 0) pe_str (fun _ _ => rfl)) (pe_lst pa_nil) (nomark _))
        (pss_cons (ps_set (i := 3) scDraw.nd rfl (.inl rfl) (pe_bm0 PySem.F.plainAttrs_list PySem.F.slot_list_pop PySem.F.type_list_pop mt_pop (pe_dget hu (pv 0) pe_str (fun _ _ => rfl))))
        (pss_cons (ps_if (pt_cmpR op_ge (pv 3) (pe_op op_pow pe_int pe_int) (nomark _))
          (pss_cons (ps_expr (pe_bm PySem.F.plainAttrs_list PySem.F.slot_list_append PySem.F.type_list_append mt_append (pe_dget hu (pv 0) pe_str (fun _ _ => rfl)) (pa_cons (pe_op op_fdiv (pv 3) (pv 1)) pa_nil)))
          (pss_one (ps_ret (pe_op op_mod (pe_callTy call_int1 (by rfl) T.int (by decide +kernel) (pa_cons (pv 3) pa_nil)) (pv 1))))) pss_nil)
        (pss_one (ps_set (i := 3) scDraw.nd rfl (.inl rfl) (pe_op op_add (pe_callTy call_int1 (by rfl) T.int (by decide +kernel) (pa_cons (pv 3) pa_nil)) (pe_dget hu (pv 0) pe_str (fun _ _ => rfl))))))) pss_nil)
      htl)), ?_⟩
    refine ⟨_, rfl, dk, _, rfl, gD hd, _, _, rfl, rfl, _, rfl, dk, _, rfl, ppD hd, ?_⟩
    have hd1 : upd H dk (.dK (deckD dl m (t + 1))) dk = some (.dK (deckD dl m (t + 1))) := upd_same
    have hl1 : upd H dk (.dK (deckD dl m (t + 1))) dl = some (.lst (cs.map V.int)) := (upd_ne ne.symm).trans hl
    have k1 : Keep dk dl H (upd H dk (.dK (deckD dl m (t + 1)))) := fun c o h1 _ e => (upd_ne h1).trans e
    generalize upd H dk (.dK (deckD dl m (t + 1))) = H1 at hd1 hl1 k1
    refine ⟨_, rfl, dk, _, rfl, gD hd1, _, rfl, dk, _, rfl, gM hd1, _, _, rfl, ?_⟩
    refine ⟨_, rfl, dk, _, rfl, gC hd1, (by show 0 ≤ sizeLine; exact Nat.zero_le _), fun p hp => ?_⟩
    have np : ∀ {b : Addr} {o : HO}, H1 b = some o → b ≠ p := fun e => ne_of_none e hp
    have kp : Keep dk dl H (upd H1 p (.lst [])) := fun c o h1 h2 e => (upd_ne (np (k1 c o h1 h2 e))).trans (k1 c o h1 h2 e)
    have hd2 : upd H1 p (.lst []) dk = _ := (upd_ne (np hd1)).trans hd1
    have hl2 : upd H1 p (.lst []) dl = _ := (upd_ne (np hl1)).trans hl1
    have hp2 : upd H1 p (.lst []) p = some (.lst []) := upd_same
    generalize upd H1 p (.lst []) = H2 at kp hd2 hl2 hp2
    refine ⟨_, _, .lst (.inl (.inl hl2)) (ints_dp cs), .lst (.inl (.inl hp2)) .nil, ints_shaped cs, rfl, _, rfl, ?_⟩
    cases cs with
    | nil =>
      refine iteF ?_
      exact ptl m none H2 ⟨⟨m, hd2, m0, m1⟩, ⟨[], hl2, Nat.zero_le _⟩⟩ kp
    | cons c0 cr =>
      refine iteT ?_
      obtain ⟨z, hz⟩ : ∃ z, ((c0 :: cr).map V.int)[((c0 :: cr).map V.int).length - 1]? = some (V.int z) := by
        refine ⟨(c0 :: cr).getLast (List.cons_ne_nil _ _), ?_⟩
        rw [List.length_map, List.getElem?_map, ← List.getLast?_eq_getElem?]
        rfl
      have hdrop : ((c0 :: cr).map V.int).dropLast = (c0 :: cr).dropLast.map V.int := (List.map_dropLast).symm
      have hlen : (c0 :: cr).dropLast.length ≤ 62 := by
        rw [List.length_dropLast]
        omega
      refine ⟨_, rfl, dk, _, rfl, gC hd2, .inl ⟨rfl, _, .inl (.inl hl2)⟩, dl, _, _, rfl, rfl, hl2, hz, ?_⟩
      rw [hdrop]
      have hd3 : upd H2 dl (.lst ((c0 :: cr).dropLast.map V.int)) dk = _ := (upd_ne ne).trans hd2
      have hl3 : upd H2 dl (.lst ((c0 :: cr).dropLast.map V.int)) dl = _ := upd_same
      have k3 : Keep dk dl H (upd H2 dl (.lst ((c0 :: cr).dropLast.map V.int))) := fun c o h1 h2 e => (upd_ne h2).trans (kp c o h1 h2 e)
      generalize (c0 :: cr).dropLast = dr at hd3 hl3 k3 hlen
      generalize upd H2 dl (.lst (dr.map V.int)) = H3 at hd3 hl3 k3
      refine ⟨_, rfl, _, _, rfl, rfl, ⟨by decide, by decide, by decide⟩, _, _, rfl, rfl, _, rfl, ?_⟩
      refine ite2 (fun _ => ?_) (fun _ => ?_)
      · refine ⟨_, rfl, dk, _, rfl, gC hd3, .inl ⟨rfl, _, .inl (.inl hl3)⟩, _, rfl, _, rfl, _, _, rfl, rfl, ⟨by omega, by omega⟩, dl, _, _, rfl, rfl, hl3, ?_, ?_⟩
        · show (dr.map V.int).length < sizeLine
          rw [List.length_map, sizeLine_eq]
          omega
        · refine ⟨_, rfl, .inl ⟨_, rfl, _, rfl, _, _, rfl, rfl, (by omega : (0 : Int) < b), ?_⟩⟩
          refine k _ _ (em z b (by omega)).1 (em z b (by omega)).2 ⟨⟨m, (upd_ne ne).trans hd3, m0, m1⟩, ⟨dr ++ [z / b], ?_, ?_⟩⟩ fun c o h1 h2 e => (upd_ne h2).trans (k3 c o h1 h2 e)
          · rw [upd_same, List.map_append]
            rfl
          · rw [List.length_append]
            show dr.length + 1 ≤ 63
            omega
      · refine ⟨_, rfl, .inl ⟨_, rfl, _, rfl, dk, _, rfl, gM hd3, _, _, rfl, rfl, ?_⟩⟩
        exact ptl (z + m) none H3 ⟨⟨m, hd3, m0, m1⟩, ⟨dr, hl3, by omega⟩⟩ k3
end
end K06

set_option Elab.async false
set_option linter.all false
set_option maxRecDepth 100000
set_option maxHeartbeats 4000000
/-! The deck is made of the script. -/
namespace K06
open PySem PySem.Spec PyProof.Rows L2 Mine
def spDeck (K : PySem.W.Frag) : Sp := fun vs H Q _ => ∃ (a : Addr) (ns : List Int), vs = [.ref a] ∧ SqL K H a (ns.map V.int) ∧ ns.length ≤ 63 ∧
  ∀ (dk dl : Addr) (H' : Hp), Same H H' → H dk = none → H dl = none → DeckAt H' dk dl 0 → Q (.ref dk) H'
theorem merged {dl : Addr} {m : Int} : mergeK [] (deckD dl m 0) = deckD dl m 0 := by
  have e1 : ¬ PySem.Str.ofString "cells" = PySem.Str.ofString "mixed" := fun q => neCM (congrArg Sum.inr q)
  have e2 : ¬ PySem.Str.ofString "cells" = PySem.Str.ofString "draws" := fun q => neCD (congrArg Sum.inr q)
  have e3 : ¬ PySem.Str.ofString "mixed" = PySem.Str.ofString "draws" := fun q => neMD (congrArg Sum.inr q)
  simp [mergeK, deckD, putK, e1, e2, e3]
theorem same_new {H H1 : Hp} {p : Addr} {o : HO} (h : Same H H1) (hp : H1 p = none) : Same H (upd H1 p o) := fun b u e => (upd_ne (ne_of_none (h b u e) hp)).trans (h b u e)
section
variable {P : Program} {w : World} {K : PySem.W.Frag} {mg : Str → Option Value} {base : Heap}
theorem scDeck : FnScope ["_law_script", "_law_cells", "_law_mixed", "_law_cell"] ["_law_script"] (defScope sDeck) := ⟨rfl, rfl, rfl, by decide +kernel, rfl, by decide +kernel, by decide +kernel⟩
theorem ok_deck {f : Addr} {fd : FuncData} (F : Fun K "_law_deck" "_law_deck" sDeck f fd) (T : TxtD mg) : FnOk P w K mg base CX0 1 f fd ["_law_script"] (spDeck K) := by
  refine F.ok scDeck (fun vs H Q E h => ?_) (fun cdv A outer s H vs Q E hr h => ?_)
  · obtain ⟨a, ns, rfl, _⟩ := h
    rfl
  · obtain ⟨a, ns, rfl, hS, hlen, k⟩ := h
    have em : ∀ (i j : Int), 0 < j → 0 ≤ i % j ∧ i % j < j := fun i j h => ⟨Int.emod_nonneg i (Int.ne_of_gt h), Int.emod_lt_of_pos i h⟩
    refine ⟨_, pss_cons (ps_par (i := 1) (j := 2) rfl scDeck.nd rfl rfl (by decide) rfl rfl (pa_cons (pe_callTy call_list_of (by rfl) T.lst (by decide +kernel) (pa_cons (pe_slice sl_list (pv 0) po_none (po_some pe_int)) pa_nil)) (pa_cons pe_int pa_nil)) (by rfl))
      (pss_cons (ps_for PassesOwn.never rfl (pi_list (pv 1)) (pg_name (i := 3) scDeck.nd rfl (.inl rfl))
        (pss_one (ps_set (i := 2) scDeck.nd rfl (.inl rfl) (pe_op op_mod (pe_callTy call_int1 (by rfl) T.int (by decide +kernel) (pa_cons (pe_op op_add (pe_op op_add (pe_op op_mul (pv 2) pe_int) (pe_op op_mod (pe_callTy call_int1 (by rfl) T.int (by decide +kernel) (pa_cons (pv 3) pa_nil)) pe_int)) pe_int) pa_nil)) pe_int))))
      (pss_one (ps_ret (pe_disp (pps_cons pe_str (pe_revL (pv 1)) (pps_cons pe_str (pv 2) (pps_cons pe_str pe_int pps_nil))) (by rfl) (by rfl) (fun z => by cases z) (by decide))))), ?_⟩
    refine ⟨_, rfl, _, rfl, a, _, rfl, hS, fun p hp => ⟨p, _, rfl, .inl (SqL.of upd_same), fun l hl => ?_⟩⟩
    obtain ⟨cs, ecs, hcs⟩ : ∃ cs : List Int, cutV (ns.map V.int) none (some 63) = cs.map V.int ∧ cs.length ≤ 63 := by
      refine ⟨(ns.drop (HT.sIx (ns.map V.int).length 0 none)).take (HT.sIx (ns.map V.int).length (ns.map V.int).length (some 63) - HT.sIx (ns.map V.int).length 0 none), ?_, ?_⟩
      · unfold cutV
        rw [List.map_take, List.map_drop]
      · rw [List.length_take, List.length_drop]
        omega
    rw [ecs]
    have s1 : Same H (upd H p (.lst (cs.map V.int))) := same_new (fun _ _ e => e) hp
    have s2 : Same H (upd (upd H p (.lst (cs.map V.int))) l (.lst (cs.map V.int))) := same_new s1 (by rw [← ecs]; exact hl)
    have hl2 : upd (upd H p (.lst (cs.map V.int))) l (.lst (cs.map V.int)) l = some (.lst (cs.map V.int)) := upd_same
    generalize upd (upd H p (.lst (cs.map V.int))) l (.lst (cs.map V.int)) = H1 at s2 hl2
    refine ⟨_, _, rfl, ?_⟩
    refine ⟨_, rfl, l, rfl, ⟨_, .inl (.inl hl2)⟩, for_list (K := K) (a := l) (xs := cs.map V.int) (fun i σ H2 => ∃ (m : Int) (v : Option V), σ = [some (.ref a), some (.ref l), some (.int m), v] ∧ H2 = H1 ∧ 0 ≤ m ∧ m < 2147483587)
      ⟨1085706, none, rfl, rfl, by decide, by decide⟩ (fun i σ H2 _ ⟨_, _, _, e, _⟩ => by rw [e]; exact .inl (.inl hl2)) ?_ ?_⟩
    · rintro i y σ H2 hi ⟨m, v, rfl, rfl, m0, m1⟩
      obtain ⟨z, rfl⟩ : ∃ z, y = V.int z := by
        rw [List.getElem?_map] at hi
        cases e : cs[i]? with
        | none =>
          rw [e] at hi
          cases hi
        | some z =>
          rw [e] at hi
          exact ⟨z, (Option.some.inj hi).symm⟩
      refine ⟨_, rfl, _, _, rfl, rfl, .inr ⟨by decide, by decide⟩, _, rfl, .inl ⟨_, rfl, _, _, rfl, rfl, (by decide : (0 : Int) < 2147483629), _, _, rfl, rfl, _, _, rfl, rfl, .inl ⟨_, rfl, _, _, rfl, rfl, (by decide : (0 : Int) < 2147483587), ?_⟩⟩⟩
      exact ⟨_, _, rfl, rfl, (em _ _ (by decide)).1, (em _ _ (by decide)).2⟩
    · rintro σ H2 ⟨m, v, rfl, rfl, m0, m1⟩
      intro d hd
      have nl : l ≠ d := ne_of_none hl2 hd
      refine ⟨_, rfl, l, _, rfl, .inl (.inl ((upd_ne nl).trans hl2)), fun q hq => ⟨_, rfl, ?_⟩⟩
      have nq : d ≠ q := ne_of_none upd_same hq
      refine ⟨(upd_ne nq).trans upd_same, deckD q m 0, rfl, (by show 3 ≤ 15; decide), ?_⟩
      have fr : ∀ {c : Addr}, H2 c = none → H c = none := fun {c} e => by
        cases z : H c with
        | none => rfl
        | some o =>
          rw [s2 c o z] at e
          cases e
      have hq0 : H2 q = none := (upd_ne nq.symm).symm.trans hq
      rw [merged]
      refine k d q _ (fun b o e => ?_) (fr hd) (fr hq0) ⟨⟨m, upd_same, m0, m1⟩, ⟨cs.reverse, ?_, ?_⟩⟩
      · rw [upd_ne (ne_of_none (s2 b o e) hd), upd_ne (ne_of_none (s2 b o e) hq0), upd_ne (ne_of_none (s2 b o e) hd)]
        exact s2 b o e
      · rw [upd_ne nq.symm, upd_same, List.map_reverse]
      · rw [List.length_reverse]
        exact hcs
end
end K06

set_option Elab.async false
set_option linter.all false
set_option maxRecDepth 100000
set_option maxHeartbeats 4000000
/-! Heaps that keep, new things, data shown; picks and needs. -/
namespace K06
open PySem PySem.Spec PyProof.Rows L2 Mine
/-- what is new in a heap -/
def Nw (H H' : Hp) : Hp := fun b => if H b = none then H' b else none
theorem Nw.at {H H' : Hp} {b : Addr} {o : HO} (h : H b = none) (e : H' b = some o) : Nw H H' b = some o := by
  unfold Nw
  rw [if_pos h]
  exact e
theorem Nw.of {H H' : Hp} {b : Addr} {o : HO} (e : Nw H H' b = some o) : H b = none ∧ H' b = some o := by
  unfold Nw at e
  by_cases h : H b = none
  · rw [if_pos h] at e
    exact ⟨h, e⟩
  · rw [if_neg h] at e
    cases e
theorem Nw.mono {H0 H H' H'' : Hp} (dom : ∀ b, H b = none → H0 b = none) (k : ∀ b o, H b = none → H' b = some o → H'' b = some o) : ∀ b o, Nw H H' b = some o → Nw H0 H'' b = some o := fun b o e =>
  let ⟨h1, h2⟩ := Nw.of e
  Nw.at (dom b h1) (k b o h1 h2)
theorem Keep.trans {dk dl : Addr} {H H1 H2 : Hp} (a : Keep dk dl H H1) (b : Keep dk dl H1 H2) : Keep dk dl H H2 := fun c o h1 h2 e => b c o h1 h2 (a c o h1 h2 e)
theorem Keep.new {dk dl p : Addr} {H H1 : Hp} {o : HO} (a : Keep dk dl H H1) (hp : H1 p = none) : Keep dk dl H (upd H1 p o) := fun c u h1 h2 e => (upd_ne (ne_of_none (a c u h1 h2 e) hp)).trans (a c u h1 h2 e)
theorem Keep.refl {dk dl : Addr} {H : Hp} : Keep dk dl H H := fun _ _ _ _ e => e
theorem DeckAt.new {dk dl p : Addr} {H : Hp} {t : Int} {o : HO} (h : DeckAt H dk dl t) (hp : H p = none) : DeckAt (upd H p o) dk dl t := by
  obtain ⟨⟨m, h1, m0, m1⟩, ⟨cs, h2, l⟩⟩ := h
  exact ⟨⟨m, (upd_ne (ne_of_none h1 hp)).trans h1, m0, m1⟩, ⟨cs, (upd_ne (ne_of_none h2 hp)).trans h2, l⟩⟩
theorem DeckAt.off {dk dl p : Addr} {H : Hp} {t : Int} (h : DeckAt H dk dl t) (hp : H p = none) : p ≠ dk ∧ p ≠ dl := by
  obtain ⟨⟨m, h1, _⟩, ⟨cs, h2, _⟩⟩ := h
  exact ⟨(ne_of_none h1 hp).symm, (ne_of_none h2 hp).symm⟩
theorem DeckAt.dom {dk dl : Addr} {H H' : Hp} {t t' : Int} (h : DeckAt H dk dl t) (h' : DeckAt H' dk dl t') (k : Keep dk dl H H') : ∀ b, H' b = none → H b = none := fun b e => by
  cases z : H b with
  | none => rfl
  | some o =>
    by_cases e1 : b = dk
    · obtain ⟨⟨m, h1, _⟩, _⟩ := h'
      rw [e1, h1] at e
      cases e
    · by_cases e2 : b = dl
      · obtain ⟨_, ⟨cs, h2, _⟩⟩ := h'
        rw [e2, h2] at e
        cases e
      · rw [k b o e1 e2 z] at e
        cases e
/-- what a deed on the deck alone leaves of new things -/
theorem Keep.news {dk dl : Addr} {H H' H'' : Hp} {t : Int} (h : DeckAt H dk dl t) (k : Keep dk dl H' H'') : ∀ b o, H b = none → H' b = some o → H'' b = some o := fun b o n e =>
  let ⟨h1, h2⟩ := h.off n
  k b o h1 h2 e
theorem _root_.Mine.Shows.up {n n' l l' : Nat} {d : PyData} (h : Shows n l d) (h1 : n ≤ n') (h2 : l ≤ l') : Shows n' l' d := ⟨h.ok, Nat.le_trans h.len h1, Nat.le_trans h.dep h2⟩
/-- all of them -/
theorem _root_.Mine.DKs.snoc' {H : Hp} {vs : List V} {ds : List PyData} {v : V} {d : PyData} (a : DKs H vs ds) (h : DK H v d) : DKs H (vs ++ [v]) (ds ++ [d]) := DKs.snoc h a
structure ShowsAll (n l k : Nat) (ds : List PyData) : Prop where
  ok : PyData.showableAll ds = true
  len : ((PyData.shownAll ds).map (·.length)).sum ≤ n * k
  num : (PyData.shownAll ds).length ≤ k
  dep : PyData.depthAll ds ≤ l
theorem ShowsAll.nil {n l : Nat} : ShowsAll n l 0 [] := ⟨by simp [PyData.showableAll], by simp [PyData.shownAll], by simp [PyData.shownAll], by simp [PyData.depthAll]⟩
theorem ShowsAll.snoc {n l k : Nat} {d : PyData} (h : Shows n l d) : ∀ {ds : List PyData}, ShowsAll n l k ds → ShowsAll n l (k + 1) (ds ++ [d]) := fun {ds} a => by
  have ap1 : ∀ xs : List PyData, PyData.showableAll (xs ++ [d]) = (PyData.showableAll xs && d.showable) := fun xs => by
    induction xs with
    | nil => simp [PyData.showableAll]
    | cons x r ih => simp [PyData.showableAll, ih, Bool.and_assoc]
  have ap2 : ∀ xs : List PyData, PyData.shownAll (xs ++ [d]) = PyData.shownAll xs ++ [d.shown] := fun xs => by
    induction xs with
    | nil => simp [PyData.shownAll]
    | cons x r ih => simp [PyData.shownAll, ih]
  have ap3 : ∀ xs : List PyData, PyData.depthAll (xs ++ [d]) = max (PyData.depthAll xs) d.depth := fun xs => by
    induction xs with
    | nil => simp [PyData.depthAll]
    | cons x r ih =>
      simp only [List.cons_append, PyData.depthAll, ih]
      omega
  refine ⟨by rw [ap1, a.ok, h.ok]; rfl, ?_, ?_, ?_⟩
  · rw [ap2, List.map_append, List.sum_append, Nat.mul_succ]
    have := h.len
    have := a.len
    simp only [List.map_cons, List.map_nil, List.sum_cons, List.sum_nil]
    omega
  · rw [ap2, List.length_append]
    have := a.num
    simp only [List.length_cons, List.length_nil]
    omega
  · rw [ap3]
    have := h.dep
    have := a.dep
    omega
theorem ShowsAll.list {n l k : Nat} {ds : List PyData} (a : ShowsAll n l k ds) (hk : k ≤ 3) : Shows (3 * n + 9) (l + 1) (.list ds) := by
  have h1 := listText_len_le (PyData.shownAll ds)
  have h2 : n * k ≤ n * 3 := Nat.mul_le_mul_left n hk
  have h3 := a.len
  have h4 := a.num
  have h5 := a.dep
  exact ⟨by simpa only [PyData.showable] using a.ok, by simp only [PyData.shown]; omega, by simp only [PyData.depth]; omega⟩
theorem ShowsAll.tuple {n l k : Nat} {ds : List PyData} (a : ShowsAll n l k ds) (hk : k ≤ 3) : Shows (3 * n + 9) (l + 1) (.tuple ds) := by
  have h1 := tupleText_len_le (PyData.shownAll ds)
  have h2 : n * k ≤ n * 3 := Nat.mul_le_mul_left n hk
  have h3 := a.len
  have h4 := a.num
  have h5 := a.dep
  exact ⟨by simpa only [PyData.showable] using a.ok, by simp only [PyData.shown]; omega, by simp only [PyData.depth]; omega⟩
theorem pick {xs : List V} {r : Int} (h0 : 0 ≤ r) (h1 : r < (xs.length : Int)) : ∃ y, y ∈ xs ∧ atI xs r = some y := by
  obtain ⟨j, rfl⟩ := Int.eq_ofNat_of_zero_le h0
  have hj : j < xs.length := by omega
  exact ⟨xs[j], List.getElem_mem hj, atI_nat (List.getElem?_eq_getElem hj)⟩
theorem same_rfl {H : Hp} : Same H H := fun _ _ e => e
theorem same_tr {H H1 H2 : Hp} (a : Same H H1) (b : Same H1 H2) : Same H H2 := fun p o e => b p o (a p o e)
theorem same_free {H H' : Hp} (k : Same H H') {b : Addr} (e : H' b = none) : H b = none := by
  cases z : H b with
  | none => rfl
  | some o =>
    rw [k b o z] at e
    cases e

end K06

set_option Elab.async false
set_option linter.all false
set_option maxRecDepth 100000
set_option maxHeartbeats 4000000
/-! A pick out of a list; a need. -/
namespace K06
open PySem PySem.Spec PyProof.Rows L2 Mine
abbrev sPick : Stmt := top 32
abbrev sNeed : Stmt := top 33
mutual
theorem dk_dp {H : Hp} (K : PySem.W.Frag) : ∀ (d : PyData) (v : V), DK H v d → d.canLay0 = true → Dp K H v d
  | .none, _, h, _ => by cases h; exact .non
  | .bool b, _, h, _ => by cases h; exact .bl b
  | .int i, _, h, _ => by cases h; exact .int i
  | .str x, _, h, _ => by cases h; exact .str x
  | .list ds, _, h, c => by
    cases h with
    | lst e r => exact .lst (.inl (.inl e)) (dks_dp K ds _ r (by simpa [PyData.canLay0] using c))
  | .tuple ds, _, h, c => by
    cases h with
    | tup e r => exact .tup (.inl (.inl e)) (dks_dp K ds _ r (by simpa [PyData.canLay0] using c))
  | .dict _, _, _, c => by simp [PyData.canLay0] at c
theorem dks_dp {H : Hp} (K : PySem.W.Frag) : ∀ (ds : List PyData) (vs : List V), DKs H vs ds → PyData.canLayAll0 ds = true → DpAll K H vs ds
  | [], _, h, _ => by cases h; exact .nil
  | d :: ds, _, h, c => by
    have c' : d.canLay0 = true ∧ PyData.canLayAll0 ds = true := by simpa [PyData.canLayAll0] using c
    cases h with
    | cons h1 h2 => exact .cons (dk_dp K d _ h1 c'.1) (dks_dp K ds _ h2 c'.2)
end
def spPick : Sp := fun vs H Q _ => ∃ (dk dl s : Addr) (t : Int) (xs : List V), vs = [.ref dk, .ref s] ∧ DeckAt H dk dl t ∧ s ≠ dl ∧ H s = some (.lst xs) ∧ xs ≠ [] ∧ xs.length ≤ 100 ∧ 0 ≤ t ∧ t ≤ 100000 ∧
  ∀ (y : V) (H' : Hp), y ∈ xs → DeckAt H' dk dl (t + 1) → Keep dk dl H H' → Q y H'
structure TxtP (K : PySem.W.Frag) (mg : Str → Option Value) (fD fP : Addr) : Prop extends TxtD mg where
  len : mg "len" = none
  gD : mg "_law_draw" = some (.ref fD)
  kD : PySem.W.keepIn K (.ref fD) = true
  gP : mg "_law_pick" = some (.ref fP)
  kP : PySem.W.keepIn K (.ref fP) = true
/-- a need of a kind of m parts, the kinds of one part being ss -/
def NeedOk (m : Int) (ss : List Str) (d : PyData) : Prop :=
  (∃ j : Int, 0 ≤ j ∧ j < m ∧ d = .tuple [.str (PySem.Str.ofString "part"), .int j]) ∨
  (∃ (c : Str) (j : Int), c ∈ ss ∧ 0 ≤ j ∧ j < m ∧ d = .tuple [.str (PySem.Str.ofString "around"), .str c, .int j]) ∨
  ∃ (c : Str) (j : Int), c ∈ ss ∧ 0 ≤ j ∧ j < m ∧ d = .tuple [.str (PySem.Str.ofString "inside"), .int j, .str c]
def spNeed : Sp := fun vs H Q _ => ∃ (dk dl s : Addr) (t m : Int) (ss : List Str), vs = [.ref dk, .ref s, .int m] ∧ DeckAt H dk dl t ∧ s ≠ dl ∧ H s = some (.lst (ss.map V.str)) ∧ ss.length ≤ 8 ∧ 1 ≤ m ∧ m ≤ 3 ∧ (∀ x ∈ ss, PyData.strOk x = true) ∧ 0 ≤ t ∧ t ≤ 90000 ∧
  ∀ (v : V) (d : PyData) (t' : Int) (H' : Hp), DeckAt H' dk dl t' → t ≤ t' → t' ≤ t + 3 → Keep dk dl H H' → DK (Nw H H') v d → NeedOk m ss d → Q v H'
theorem strs_dp {H : Hp} {K : PySem.W.Frag} : ∀ cs : List Str, DpAll K H (cs.map V.str) (cs.map PyData.str)
  | [] => .nil
  | c :: cs => .cons (.str c) (strs_dp cs)
theorem strs_lay : ∀ cs : List Str, (∀ x ∈ cs, PyData.strOk x = true) → PyData.canLayAll0 (cs.map PyData.str) = true
  | [], _ => by simp [PyData.canLayAll0]
  | c :: cs, h => by
    simp only [List.map_cons, PyData.canLayAll0, PyData.canLay0, Bool.and_eq_true]
    exact ⟨h c (List.mem_cons_self ..), strs_lay cs fun x hx => h x (List.mem_cons_of_mem _ hx)⟩
theorem strs_dep : ∀ cs : List Str, PyData.depthAll (cs.map PyData.str) = 0
  | [] => by simp [PyData.depthAll]
  | c :: cs => by simp [PyData.depthAll, PyData.depth, strs_dep cs]
theorem strs_shaped {cs : List Str} (h : ∀ x ∈ cs, PyData.strOk x = true) : SeqAt.shaped (.list (cs.map PyData.str)) = true := by
  show (PyData.canLay0 (.list (cs.map PyData.str)) && decide (PyData.depth (.list (cs.map PyData.str)) ≤ 64)) = true
  rw [Bool.and_eq_true]
  refine ⟨by simp only [PyData.canLay0]; exact strs_lay cs h, decide_eq_true ?_⟩
  simp only [PyData.depth, strs_dep]
  decide
section
variable {P : Program} {w : World} {K : PySem.W.Frag} {mg : Str → Option Value} {base : Heap}
theorem scPick : FnScope ["_law_deck_here", "_law_some"] ["_law_deck_here", "_law_some"] (defScope sPick) := ⟨rfl, rfl, rfl, by decide +kernel, rfl, by decide +kernel, by decide +kernel⟩
theorem ok_pick {f fD : Addr} {fd fdD : FuncData} (F : Fun K "_law_pick" "_law_pick" sPick f fd) (GD : FnOk P w K mg base CX0 1 fD fdD ["_law_deck_here", "_law_below"] spDraw) (bD : Binds K fdD ["_law_deck_here", "_law_below"] []) (T : TxtP K mg fD f) :
    FnOk P w K mg base CX0 2 f fd ["_law_deck_here", "_law_some"] spPick := by
  refine F.ok scPick (fun vs H Q E h => ?_) (fun cdv A outer s H vs Q E hr h => ?_)
  · obtain ⟨dk, dl, p, t, xs, rfl, _⟩ := h
    rfl
  · obtain ⟨dk, dl, p, t, xs, rfl, hD, hpl, hp, hne, hx, t0, t1, k⟩ := h
    have hu := hu_of hr
    refine ⟨_, pss_one (ps_ret (pe_ix ix_list (pv 1) (pe_call GD hr rfl T.gD T.kD bD .nil pass0 (pa_cons (pv 0) (pa_cons (pe_callB call_len_seq (by rfl) T.len PySem.boot_len (pa_cons (pv 1) pa_nil)) pa_nil))) (fun _ _ => rfl))), ?_⟩
    have pos : 0 < xs.length := by
      cases xs with
      | nil => exact absurd rfl hne
      | cons _ _ => exact Nat.succ_pos _
    refine ⟨_, rfl, _, rfl, _, rfl, p, _, rfl, .inl (SqL.of hp), ?_⟩
    refine ⟨dk, dl, (xs.length : Int), t, rfl, hD, by omega, by omega, t0, t1, fun r H' r0 r1 D' K' => ?_⟩
    have np : p ≠ dk := by
      obtain ⟨⟨m, h1, _⟩, _⟩ := hD
      exact ne_of hp h1 (by intro z; cases z)
    obtain ⟨y, hy, ha⟩ := K06.pick r0 r1
    exact ⟨p, _, _, _, rfl, rfl, SqL.of (K' _ _ np hpl hp), ha, k y H' hy D' K'⟩
theorem scNeed : FnScope ["_law_deck_here", "_law_singles", "_law_many", "_law_way", "_law_j", "_law_c"] ["_law_deck_here", "_law_singles", "_law_many"] (defScope sNeed) := ⟨rfl, rfl, rfl, by decide +kernel, rfl, by decide +kernel, by decide +kernel⟩
theorem ok_need {f fD fP : Addr} {fd fdD fdP : FuncData} (F : Fun K "_law_need" "_law_need" sNeed f fd) (GD : FnOk P w K mg base CX0 1 fD fdD ["_law_deck_here", "_law_below"] spDraw) (bD : Binds K fdD ["_law_deck_here", "_law_below"] [])
    (GP : FnOk P w K mg base CX0 2 fP fdP ["_law_deck_here", "_law_some"] spPick) (bP : Binds K fdP ["_law_deck_here", "_law_some"] []) (T : TxtP K mg fD fP) : FnOk P w K mg base CX0 3 f fd ["_law_deck_here", "_law_singles", "_law_many"] spNeed := by
  refine F.ok scNeed (fun vs H Q E h => ?_) (fun cdv A outer s H vs Q E hr h => ?_)
  · obtain ⟨dk, dl, p, t, m, ss, rfl, _⟩ := h
    rfl
  · obtain ⟨dk, dl, p, t, m, ss, rfl, hD, hpl, hp, hss, m1, m3, sok, t0, t1, k⟩ := h
    have hu := hu_of hr
    have hr1 : Room 1 _ := hr.mono (by decide)
    have np : p ≠ dk := by
      obtain ⟨⟨m, h1, _⟩, _⟩ := hD
      exact ne_of hp h1 (by intro z; cases z)
    refine ⟨_, pss_cons (ps_par (i := 3) (j := 4) rfl scNeed.nd rfl rfl (by decide) rfl rfl (pa_cons (pe_call GD hr1 rfl T.gD T.kD bD .nil pass0 (pa_cons (pv 0) (pa_cons pe_int pa_nil))) (pa_cons (pe_call GD hr1 rfl T.gD T.kD bD .nil pass0 (pa_cons (pv 0) (pa_cons (pv 2) pa_nil))) pa_nil)) (by rfl))
      (pss_cons (ps_if (PW.pt (pw_or (pt_cmpR op_eq (pv 3) pe_int (nomark _)) (pw_or1 (pt_cmpR (op_eqD hr.units) (pv 1) (pe_lst pa_nil) (nomark _))))) (pss_one (ps_ret (pe_tup (pa_cons pe_str (pa_cons (pv 4) pa_nil))))) pss_nil)
      (pss_cons (ps_set (i := 5) scNeed.nd rfl (.inl rfl) (pe_call GP hr rfl T.gP T.kP bP .nil pass0 (pa_cons (pv 0) (pa_cons (pv 1) pa_nil))))
      (pss_one (ps_ret (pe_ifExp (pt_cmpR op_eq (pv 3) pe_int (nomark _)) (pe_tup (pa_cons pe_str (pa_cons (pv 5) (pa_cons (pv 4) pa_nil)))) (pe_tup (pa_cons pe_str (pa_cons (pv 4) (pa_cons (pv 5) pa_nil)))))))) ), ?_⟩
    refine ⟨_, rfl, dk, dl, 3, t, rfl, hD, by decide, by decide, t0, by omega, fun way H1 w0 w1 D1 K1 => ⟨_, rfl, _, rfl, dk, dl, m, t + 1, rfl, D1, m1, by omega, by omega, by omega, fun j H2 j0 j1 D2 K2 => ⟨_, _, rfl, ?_⟩⟩⟩
    have K02 := K1.trans K2
    have hp2 := K02 _ _ np hpl hp
    -- the answer «part»
    have part : ∀ H3 q, DeckAt H3 dk dl (t + 1 + 1) → Keep dk dl H H3 → H3 q = none → Q (.ref q) (upd H3 q (.tup [.str (PySem.Str.ofString "part"), .int j])) := fun H3 q D3 K3 hq =>
      k (.ref q) _ (t + 1 + 1) _ (D3.new hq) (by omega) (by omega) (K3.new hq) (.tup (Nw.at (hD.dom D3 K3 q hq) upd_same) (.cons (.str _) (.cons (.int _) .nil))) (.inl ⟨j, j0, j1, rfl⟩)
    refine ⟨_, rfl, rfl, _, rfl, ite2 (fun hw => ?_) (fun hw => ?_)⟩
    · refine ite2 (fun _ => ?_) (fun z => absurd rfl z)
      exact ⟨_, rfl, (by show 2 ≤ sizeLine; rw [sizeLine_eq]; decide), fun q hq => part H2 q D2 K02 hq⟩
    · refine ⟨_, rfl, (by show 0 ≤ sizeLine; exact Nat.zero_le _), fun e he => ?_⟩
      have kE : Keep dk dl H2 (upd H2 e (.lst [])) := Keep.refl.new he
      have hpE := kE _ _ np hpl hp2
      refine ⟨_, _, .lst (SqL.of hpE) (strs_dp ss), .lst (SqL.of upd_same) .nil, strs_shaped sok, rfl, _, rfl, ?_⟩
      cases ss with
      | nil =>
        refine ite2 (fun _ => ?_) (fun z => absurd rfl z)
        exact ⟨_, rfl, (by show 2 ≤ sizeLine; rw [sizeLine_eq]; decide), fun q hq => part _ q (D2.new he) (K02.trans kE) hq⟩
      | cons c0 cr =>
        refine ite2 (fun z => absurd z (by simp [PyData.eqv, PyData.eqvAll])) (fun _ => ?_)
        refine ⟨_, rfl, _, rfl, dk, dl, p, t + 1 + 1, _, rfl, D2.new he, hpl, hpE, by simp, by rw [List.length_map]; omega, by omega, by omega, fun y H4 hy D4 K4 => ?_⟩
        obtain ⟨c, hc, rfl⟩ := List.mem_map.mp hy
        have K04 := (K02.trans kE).trans K4
        refine ⟨_, rfl, rfl, _, rfl, ite2 (fun _ => ?_) (fun _ => ?_)⟩
        · refine ⟨_, rfl, _, rfl, (by show 3 ≤ sizeLine; rw [sizeLine_eq]; decide), fun q hq => ?_⟩
          exact k (.ref q) _ (t + 1 + 1 + 1) _ (D4.new hq) (by omega) (by omega) (K04.new hq) (.tup (Nw.at (hD.dom D4 K04 q hq) upd_same) (.cons (.str _) (.cons (.str _) (.cons (.int _) .nil)))) (.inr (.inl ⟨c, j, hc, j0, j1, rfl⟩))
        · refine ⟨_, rfl, _, rfl, (by show 3 ≤ sizeLine; rw [sizeLine_eq]; decide), fun q hq => ?_⟩
          exact k (.ref q) _ (t + 1 + 1 + 1) _ (D4.new hq) (by omega) (by omega) (K04.new hq) (.tup (Nw.at (hD.dom D4 K04 q hq) upd_same) (.cons (.str _) (.cons (.int _) (.cons (.str _) .nil)))) (.inr (.inr ⟨c, j, hc, j0, j1, rfl⟩))
end
end K06

set_option Elab.async false
set_option linter.all false
set_option maxRecDepth 100000
set_option maxHeartbeats 4000000
/-! The kinds and openings of a drawn book. -/
namespace K06
open PySem PySem.Spec PyProof.Rows L2 Mine
abbrev sKit : Stmt := top 34
/-- a list at p that grows, all else but the deck standing -/
structure LI (dk dl p : Addr) (H0 H' : Hp) (vs : List V) (ds : List PyData) : Prop where
  at_ : H' p = some (.lst vs)
  ok : DKs (Nw H0 H') vs ds
  keep : ∀ b x, b ≠ dk → b ≠ dl → b ≠ p → H0 b = some x → H' b = some x
theorem LI.step {dk dl p : Addr} {H0 H' H'' : Hp} {vs : List V} {ds : List PyData} {t : Int} (I : LI dk dl p H0 H' vs ds) (D : DeckAt H0 dk dl t) (h1 : p ≠ dk) (h2 : p ≠ dl) (k : Keep dk dl H' H'') : LI dk dl p H0 H'' vs ds :=
  ⟨k _ _ h1 h2 I.at_, DKs.keeps (Nw.mono (fun _ z => z) (k.news D)) _ _ I.ok, fun b x a1 a2 a3 e => k b x a1 a2 (I.keep b x a1 a2 a3 e)⟩
theorem LI.add {dk dl p : Addr} {H0 H' : Hp} {vs : List V} {ds : List PyData} {v : V} {d : PyData} (I : LI dk dl p H0 H' vs ds) (hp : H0 p ≠ none) (h : DK (Nw H0 H') v d) : LI dk dl p H0 (upd H' p (.lst (vs ++ [v]))) (vs ++ [v]) (ds ++ [d]) := by
  have k : ∀ b o, H0 b = none → H' b = some o → upd H' p (.lst (vs ++ [v])) b = some o := fun b o n e => (upd_ne (fun z => hp (by rw [← z]; exact n))).trans e
  exact ⟨upd_same, (DKs.keeps (Nw.mono (fun _ z => z) k) _ _ I.ok).snoc' (DK.keeps (Nw.mono (fun _ z => z) k) _ _ h), fun b x a1 a2 a3 e => (upd_ne a3).trans (I.keep b x a1 a2 a3 e)⟩
/-- what is new beside H0 is new -/
theorem LI.dom {dk dl p : Addr} {H0 H' : Hp} {vs : List V} {ds : List PyData} {t t' : Int} (I : LI dk dl p H0 H' vs ds) (D : DeckAt H0 dk dl t) (D' : DeckAt H' dk dl t') : ∀ b, H' b = none → H0 b = none := fun b e => by
  cases z : H0 b with
  | none => rfl
  | some o =>
    by_cases e1 : b = dk
    · obtain ⟨⟨m, h1, _⟩, _⟩ := D'
      rw [e1, h1] at e
      cases e
    · by_cases e2 : b = dl
      · obtain ⟨_, ⟨cs, h2, _⟩⟩ := D'
        rw [e2, h2] at e
        cases e
      · by_cases e3 : b = p
        · rw [e3, I.at_] at e
          cases e
        · rw [I.keep b o e1 e2 e3 z] at e
          cases e
def W8 : List Str := [PySem.Str.ofString "box", PySem.Str.ofString "half", PySem.Str.ofString "lock", PySem.Str.ofString "mark", PySem.Str.ofString "pair", PySem.Str.ofString "q", PySem.Str.ofString "seal", PySem.Str.ofString "zzzzzzzz"]
def W6 : List Str := [PySem.Str.ofString "ahead", PySem.Str.ofString "first", PySem.Str.ofString "look", PySem.Str.ofString "open", PySem.Str.ofString "second", PySem.Str.ofString "undo"]
def kD (p : Str × Int) : PyData := .tuple [.str p.1, .int p.2]
structure Op where
  w : Str
  k : Str
  g : Int
  n : List PyData
def oD (o : Op) : PyData := .tuple [.str o.w, .str o.k, .int o.g, .tuple o.n]
def singles (ks : List (Str × Int)) : List Str := (ks.filter fun p => decide (p.2 = 1)).map (·.1)
structure OpOk (ks : List (Str × Int)) (o : Op) : Prop where
  ex : ∃ m : Int, (o.k, m) ∈ ks ∧ 0 ≤ o.g ∧ o.g < m ∧ o.n.length ≤ 2 ∧ ∀ d ∈ o.n, NeedOk m (singles ks) d
structure KitOk (ks : List (Str × Int)) (os : List Op) : Prop where
  ne : ks ≠ []
  sub : (ks.map (·.1)).Sublist W8
  num : ∀ p ∈ ks, 1 ≤ p.2 ∧ p.2 ≤ 3
  osub : (os.map (·.w)).Sublist W6
  ops : ∀ o ∈ os, OpOk ks o
def spKit : Sp := fun vs H Q _ => ∃ (dk dl : Addr) (t : Int), vs = [.ref dk] ∧ DeckAt H dk dl t ∧ 0 ≤ t ∧ t ≤ 50000 ∧
  ∀ (r p1 p2 : Addr) (vs ws : List V) (ks : List (Str × Int)) (os : List Op) (t' : Int) (H' : Hp), DeckAt H' dk dl t' → t ≤ t' → t' ≤ t + 100 → Keep dk dl H H' → H r = none → H p1 = none → H p2 = none →
    H' r = some (.tup [.ref p1, .ref p2]) → Fz H' p1 vs → H' p2 = some (.tup ws) → DKs (Nw H H') vs (ks.map kD) → DKs (Nw H H') ws (os.map oD) → KitOk ks os → Q (.ref r) H'
structure TxtK (K : PySem.W.Frag) (mg : Str → Option Value) (fD fP fN : Addr) : Prop extends TxtP K mg fD fP where
  range : mg "range" = none
  tuple : mg "tuple" = none
  gN : mg "_law_need" = some (.ref fN)
  kN : PySem.W.keepIn K (.ref fN) = true
theorem w8_ok : ∀ x ∈ W8, PyData.strOk x = true := by decide +kernel
theorem sub_w8 {ks : List (Str × Int)} (h : (ks.map (·.1)).Sublist W8) : ∀ p ∈ ks, PyData.strOk p.1 = true := fun p hp => w8_ok _ (h.subset (List.mem_map_of_mem hp))

theorem DeckAt.set {dk dl p : Addr} {H : Hp} {t : Int} {o : HO} (h : DeckAt H dk dl t) (h1 : p ≠ dk) (h2 : p ≠ dl) : DeckAt (upd H p o) dk dl t := by
  obtain ⟨⟨m, x1, m0, m1⟩, ⟨cs, x2, l⟩⟩ := h
  exact ⟨⟨m, (upd_ne h1.symm).trans x1, m0, m1⟩, ⟨cs, (upd_ne h2.symm).trans x2, l⟩⟩
theorem LI.keepOf {dk dl p : Addr} {H H0 H' : Hp} {vs : List V} {ds : List PyData} (I : LI dk dl p H0 H' vs ds) (k : Keep dk dl H H0) (hp : H p = none) : Keep dk dl H H' := fun b o h1 h2 e =>
  I.keep b o h1 h2 (fun z => by rw [z, hp] at e; cases e) (k b o h1 h2 e)
theorem dks_at {H : Hp} : ∀ {vs : List V} {ds : List PyData} {i : Nat} {v : V}, DKs H vs ds → vs[i]? = some v → ∃ d, ds[i]? = some d ∧ DK H v d
  | _, _, 0, v, .cons h _, e => ⟨_, rfl, by cases e; exact h⟩
  | _, _, i + 1, v, .cons _ r, e => by
    obtain ⟨d, e1, h1⟩ := dks_at r (i := i) e
    exact ⟨d, e1, h1⟩
theorem dks_mem {H : Hp} {vs : List V} {ds : List PyData} {v : V} (r : DKs H vs ds) (h : v ∈ vs) : ∃ d, d ∈ ds ∧ DK H v d := by
  obtain ⟨i, e⟩ := List.getElem?_of_mem h
  obtain ⟨d, e1, h1⟩ := dks_at r e
  exact ⟨d, List.mem_of_getElem? e1, h1⟩
theorem nw_some {H H' : Hp} : ∀ b o, Nw H H' b = some o → H' b = some o := fun _ _ e => (Nw.of e).2
theorem kd_of {H : Hp} {v : V} {p : Str × Int} (h : DK H v (kD p)) : ∃ a, v = .ref a ∧ H a = some (.tup [.str p.1, .int p.2]) := by
  cases h with
  | tup e r =>
    cases r with
    | cons h1 r =>
      cases r with
      | cons h2 r =>
        cases r
        cases h1
        cases h2
        exact ⟨_, rfl, e⟩
theorem kds_keeps {H H' : Hp} (k : ∀ a x, H a = some (.tup x) → H' a = some (.tup x)) : ∀ (ks : List (Str × Int)) (vs : List V), DKs H vs (ks.map kD) → DKs H' vs (ks.map kD)
  | [], _, h => by cases h; exact .nil
  | c :: cs, _, h => by
    cases h with
    | cons h1 h2 =>
      obtain ⟨a, rfl, e⟩ := kd_of h1
      exact .cons (.tup (k _ _ e) (.cons (.str _) (.cons (.int _) .nil))) (kds_keeps k cs _ h2)
theorem singles_yes {ks : List (Str × Int)} {i : Nat} {p : Str × Int} (h : ks[i]? = some p) (e : p.2 = 1) : singles (ks.take (i + 1)) = singles (ks.take i) ++ [p.1] := by
  unfold singles
  rw [List.take_add_one, h, List.filter_append, List.map_append]
  simp [e]
theorem singles_no {ks : List (Str × Int)} {i : Nat} {p : Str × Int} (h : ks[i]? = some p) (e : p.2 ≠ 1) : singles (ks.take (i + 1)) = singles (ks.take i) := by
  unfold singles
  rw [List.take_add_one, h, List.filter_append, List.map_append]
  simp [e]
theorem singles_len (ks : List (Str × Int)) : (singles ks).length ≤ ks.length := by
  unfold singles
  rw [List.length_map]
  exact List.length_filter_le _ _
theorem singles_mem {ks : List (Str × Int)} {c : Str} (h : c ∈ singles ks) : (c, (1 : Int)) ∈ ks := by
  unfold singles at h
  obtain ⟨p, hp, rfl⟩ := List.mem_map.mp h
  obtain ⟨h1, h2⟩ := List.mem_filter.mp hp
  have := of_decide_eq_true h2
  rw [← this]
  exact h1
theorem kds_lay : ∀ ks : List (Str × Int), (∀ p ∈ ks, PyData.strOk p.1 = true) → PyData.canLayAll0 (ks.map kD) = true
  | [], _ => by simp [PyData.canLayAll0]
  | c :: cs, h => by
    simp only [List.map_cons, PyData.canLayAll0, PyData.canLay0, Bool.and_eq_true, kD]
    exact ⟨⟨h c (List.mem_cons_self ..), trivial, trivial⟩, kds_lay cs fun x hx => h x (List.mem_cons_of_mem _ hx)⟩
theorem kds_dep : ∀ ks : List (Str × Int), PyData.depthAll (ks.map kD) ≤ 1
  | [] => by simp [PyData.depthAll]
  | c :: cs => by
    have := kds_dep cs
    simp only [List.map_cons, PyData.depthAll, PyData.depth, kD]
    omega
theorem kds_shaped {ks : List (Str × Int)} (h : ∀ p ∈ ks, PyData.strOk p.1 = true) : SeqAt.shaped (.list (ks.map kD)) = true := by
  show (PyData.canLay0 (.list (ks.map kD)) && decide (PyData.depth (.list (ks.map kD)) ≤ 64)) = true
  rw [Bool.and_eq_true]
  refine ⟨by simp only [PyData.canLay0]; exact kds_lay ks h, decide_eq_true ?_⟩
  have := kds_dep ks
  simp only [PyData.depth]
  omega
/-- the kinds of the book as they stand once drawn -/
structure Kinds (dk dl : Addr) (H H2 : Hp) (pk : Addr) (vs : List V) (ks : List (Str × Int)) : Prop where
  at_ : H2 pk = some (.lst vs)
  off : H pk = none
  ok : DKs (Nw H H2) vs (ks.map kD)
  ne : ks ≠ []
  sub : (ks.map (·.1)).Sublist W8
  num : ∀ p ∈ ks, 1 ≤ p.2 ∧ p.2 ≤ 3
theorem half_sub : ([((PySem.Str.ofString "half" : Str), (1 : Int))].map (·.1)).Sublist W8 := by
  unfold W8
  exact .cons _ (.cons₂ _ (.cons _ (.cons _ (.cons _ (.cons _ (.cons _ (.cons _ .slnil)))))))
theorem fallback {K : PySem.W.Frag} {dk dl p : Addr} {H H' : Hp} {t tz : Int} {vs : List V} {ks : List (Str × Int)} {σ : L2.St} {G : V → Hp → Prop} (hD : DeckAt H dk dl tz) (hp : H p = none) (e : H' p = some (.lst vs)) (ok : DKs (Nw H H') vs (ks.map kD)) (D' : DeckAt H' dk dl t) (k' : Keep dk dl H H')
    (sub : (ks.map (·.1)).Sublist W8) (num : ∀ p ∈ ks, 1 ≤ p.2 ∧ p.2 ≤ 3) (hσ : σ[1]? = some (some (V.ref p)))
    (h : ∀ pk vs ks H2, Kinds dk dl H H2 pk vs ks → DeckAt H2 dk dl t → Keep dk dl H' H2 → G (.ref pk) H2) :
    tIf (tTest (tOp (rNeD K) (tVar 1) (tLst tNil))) (tVar 1) (tLst (tCons (tTup (tCons (tC (.str (PySem.Str.ofString "half"))) (tCons (tC (.int 1)) tNil))) tNil)) σ H' G := by
  refine ⟨_, hσ, (by show 0 ≤ sizeLine; exact Nat.zero_le _), fun q hq => ?_⟩
  have e1 : upd H' q (.lst []) p = some (.lst vs) := (upd_ne (ne_of_none e hq)).trans e
  have kq : Keep dk dl H' (upd H' q (.lst [])) := Keep.refl.new hq
  have ok1 : DKs (Nw H (upd H' q (.lst []))) vs (ks.map kD) := DKs.keeps (Nw.mono (fun _ z => z) (kq.news hD)) _ _ ok
  refine ⟨_, _, .lst (SqL.of e1) (dks_dp K _ _ (DKs.keeps nw_some _ _ ok1) (kds_lay ks (sub_w8 sub))), .lst (SqL.of upd_same) .nil, kds_shaped (sub_w8 sub), rfl, _, rfl, ?_⟩
  cases ks with
  | nil =>
    refine ite2 (fun z => absurd z (by simp [PyData.eqv, PyData.eqvAll])) (fun _ => ?_)
    refine ⟨(by show 2 ≤ sizeLine; rw [sizeLine_eq]; decide), fun a ha => ⟨(by show 1 ≤ sizeLine; rw [sizeLine_eq]; decide), fun b hb => ?_⟩⟩
    have Da : DeckAt (upd (upd H' q (.lst [])) a (.tup [.str (PySem.Str.ofString "half"), .int 1])) dk dl t := (D'.new hq).new ha
    have Ka := (kq.new ha : Keep dk dl H' (upd (upd H' q (.lst [])) a (.tup [.str (PySem.Str.ofString "half"), .int 1])))
    have na : H a = none := hD.dom (D'.new hq) (k'.trans kq) a ha
    have nb : H b = none := hD.dom Da (k'.trans Ka) b hb
    refine h b [.ref a] [((PySem.Str.ofString "half" : Str), (1 : Int))] _ ⟨upd_same, nb, ?_, List.cons_ne_nil _ _, half_sub, fun p hp => by simp only [List.mem_cons, List.not_mem_nil, or_false] at hp; subst hp; decide⟩ (Da.new hb) (Ka.new hb)
    exact .cons (.tup (Nw.at na ((upd_ne (ne_of_none upd_same hb)).trans upd_same)) (.cons (.str _) (.cons (.int _) .nil))) .nil
  | cons c0 cr =>
    refine ite2 (fun _ => ?_) (fun z => absurd rfl z)
    exact ⟨_, hσ, h p vs (c0 :: cr) _ ⟨e1, hp, ok1, List.cons_ne_nil _ _, sub, num⟩ (D'.new hq) kq⟩
end K06

set_option Elab.async false
set_option linter.all false
set_option maxRecDepth 100000
set_option maxHeartbeats 4000000
/-! the kinds and openings of a drawn book -/
namespace K06
open PySem PySem.Spec PyProof.Rows L2 Mine
section
variable {P : Program} {w : World} {K : PySem.W.Frag} {mg : Str → Option Value} {base : Heap}
theorem scKit : FnScope ["_law_deck_here", "_law_makes", "_law_taking", "_law_word", "_law_many", "_law_singles", "_law_word_of", "_law_needs", "_law_go"] ["_law_deck_here"] (defScope sKit) := ⟨rfl, rfl, rfl, by decide +kernel, rfl, by decide +kernel, by decide +kernel⟩
theorem ok_kit {f fD fP fN : Addr} {fd fdD fdP fdN : FuncData} (F : Fun K "_law_kit" "_law_kit" sKit f fd) (GD : FnOk P w K mg base CX0 1 fD fdD ["_law_deck_here", "_law_below"] spDraw) (bD : Binds K fdD ["_law_deck_here", "_law_below"] [])
    (GP : FnOk P w K mg base CX0 2 fP fdP ["_law_deck_here", "_law_some"] spPick) (bP : Binds K fdP ["_law_deck_here", "_law_some"] []) (GN : FnOk P w K mg base CX0 3 fN fdN ["_law_deck_here", "_law_singles", "_law_many"] spNeed) (bN : Binds K fdN ["_law_deck_here", "_law_singles", "_law_many"] [])
    (T : TxtK K mg fD fP fN) : FnOk P w K mg base CX0 4 f fd ["_law_deck_here"] spKit := by
  refine F.ok scKit (fun vs H Q E h => ?_) (fun cdv A outer s H vs Q E hr h => ?_)
  · obtain ⟨dk, dl, t, rfl, _⟩ := h
    rfl
  · obtain ⟨dk, dl, t, rfl, hD, t0, t1, k⟩ := h
    have hu := hu_of hr
    have hr1 : Room 1 _ := hr.mono (by decide)
    have hr2 : Room 2 _ := hr.mono (by decide)
    refine ⟨_, pss_cons (ps_par (i := 1) (j := 2) rfl scKit.nd rfl rfl (by decide) rfl rfl (pa_cons (pe_lst pa_nil) (pa_cons (pe_lst pa_nil) pa_nil)) (by rfl))
      (pss_cons (ps_for PassesOwn.never rfl (pi_list (pe_lst (pa_cons pe_str (pa_cons pe_str (pa_cons pe_str (pa_cons pe_str (pa_cons pe_str (pa_cons pe_str (pa_cons pe_str (pa_cons pe_str pa_nil)))))))))) (pg_name (i := 3) scKit.nd rfl (.inl rfl))
        (pss_one (ps_if (pt_cmpR op_eq (pe_call GD hr1 rfl T.gD T.kD bD .nil pass0 (pa_cons (pv 0) (pa_cons pe_int pa_nil))) pe_int (nomark _))
          (pss_one (ps_expr (pe_bm PySem.F.plainAttrs_list PySem.F.slot_list_append PySem.F.type_list_append mt_append (pv 1) (pa_cons (pe_tup (pa_cons (pv 3) (pa_cons (pe_op op_add pe_int (pe_call GD hr1 rfl T.gD T.kD bD .nil pass0 (pa_cons (pv 0) (pa_cons pe_int pa_nil)))) pa_nil))) pa_nil)))) pss_nil)))
      (pss_cons (ps_set (i := 1) scKit.nd rfl (.inl rfl) (pe_ifExp (pt_cmpR (op_neD hr.units) (pv 1) (pe_lst pa_nil) (nomark _)) (pv 1) (pe_lst (pa_cons (pe_tup (pa_cons pe_str (pa_cons pe_int pa_nil))) pa_nil))))
      (pss_cons (ps_set (i := 5) scKit.nd rfl (.inr rfl) (pe_lc (own := [("_law_word", 3), ("_law_many", 4)]) (g := gTup K 2 (gCons (gName 3) (gCons (gName 4) gNil))) rfl scKit.nd (pi_list (pv 1))
        (blkOk_by (own := [("_law_word", 3), ("_law_many", 4)]) (N := ["_law_deck_here", "_law_makes", "_law_taking", "_law_word", "_law_many", "_law_singles", "_law_word_of", "_law_needs", "_law_go"]) (sc := defScope sKit) (by decide +kernel))
        (fun _ _ _ _ _ => pg_tup rfl (pgs_cons (pg_name (i := 3) scKit.nd rfl (Or.inl rfl)) (pgs_cons (pg_name (i := 4) scKit.nd rfl (Or.inl rfl)) pgs_nil))) (fun _ _ _ _ _ => pts_one (pt_cmpR op_eq (pv 4) pe_int (nomark _))) (fun _ _ _ _ _ => pv 3)))
      (pss_cons (ps_for PassesOwn.never rfl (pi_list (pe_lst (pa_cons pe_str (pa_cons pe_str (pa_cons pe_str (pa_cons pe_str (pa_cons pe_str (pa_cons pe_str pa_nil)))))))) (pg_name (i := 3) scKit.nd rfl (.inl rfl))
        (pss_one (ps_if (pt_cmpR op_eq (pe_call GD hr1 rfl T.gD T.kD bD .nil pass0 (pa_cons (pv 0) (pa_cons pe_int pa_nil))) pe_int (nomark _))
          (pss_cons (ps_asg (pe_call GP hr2 rfl T.gP T.kP bP .nil pass0 (pa_cons (pv 0) (pa_cons (pv 1) pa_nil))) (pg_tup rfl (pgs_cons (pg_name (i := 6) scKit.nd rfl (.inl rfl)) (pgs_cons (pg_name (i := 4) scKit.nd rfl (.inr rfl)) pgs_nil))))
          (pss_cons (ps_set (i := 7) scKit.nd rfl (.inl rfl) (pe_callTy call_tuple_of (by rfl) T.tuple (by decide +kernel) (pa_cons (pe_lc (own := [("_law_go", 8)]) (g := gName 8) (tt := tYes) rfl scKit.nd (pi_range1 rfl T.range (pa_cons (pe_call GD hr1 rfl T.gD T.kD bD .nil pass0 (pa_cons (pv 0) (pa_cons pe_int pa_nil))) pa_nil))
            (blkOk_by (own := [("_law_go", 8)]) (N := ["_law_deck_here", "_law_makes", "_law_taking", "_law_word", "_law_many", "_law_singles", "_law_word_of", "_law_needs", "_law_go"]) (sc := defScope sKit) (by decide +kernel))
            (fun _ _ _ _ _ => pg_name (i := 8) scKit.nd rfl (Or.inl rfl)) (fun _ _ _ _ _ => pts_nil) (fun _ _ _ _ _ => pe_call GN hr rfl T.gN T.kN bN .nil pass0 (pa_cons (pv 0) (pa_cons (pv 5) (pa_cons (pv 4) pa_nil))))) pa_nil)))
          (pss_one (ps_expr (pe_bm PySem.F.plainAttrs_list PySem.F.slot_list_append PySem.F.type_list_append mt_append (pv 2) (pa_cons (pe_tup (pa_cons (pv 3) (pa_cons (pv 6) (pa_cons (pe_call GD hr1 rfl T.gD T.kD bD .nil pass0 (pa_cons (pv 0) (pa_cons (pv 4) pa_nil))) (pa_cons (pv 7) pa_nil))))) pa_nil)))))) pss_nil)))
      (pss_one (ps_ret (pe_tup (pa_cons (pe_callTy call_tupleF (by rfl) T.tuple (by decide +kernel) (pa_cons (pv 1) pa_nil)) (pa_cons (pe_callTy call_tuple_of (by rfl) T.tuple (by decide +kernel) (pa_cons (pv 2) pa_nil)) pa_nil))))))))), ?_⟩
    refine ⟨Nat.zero_le _, fun pm em => ⟨Nat.zero_le _, fun pt et => ⟨_, _, rfl, ?_⟩⟩⟩
    refine ⟨(by show 8 ≤ sizeLine; rw [sizeLine_eq]; decide), fun pl el => ⟨pl, rfl, ⟨_, SqL.of upd_same⟩, ?_⟩⟩
    have m1 : upd H pm (.lst []) pm = some (.lst []) := upd_same
    have m2 := (upd_ne (o := .lst []) (ne_of_none m1 et)).trans m1
    have m3 := (upd_ne (o := .lst (W8.map V.str)) (ne_of_none m2 el)).trans m2
    have n2 : upd (upd H pm (.lst [])) pt (.lst []) pt = some (.lst []) := upd_same
    have n3 := (upd_ne (o := .lst (W8.map V.str)) (ne_of_none n2 el)).trans n2
    have l3 : upd (upd (upd H pm (.lst [])) pt (.lst [])) pl (.lst (W8.map V.str)) pl = some (.lst (W8.map V.str)) := upd_same
    have hnt : H pt = none := hD.dom (hD.new em) (Keep.refl.new em) pt et
    have hnl : H pl = none := hD.dom ((hD.new em).new et) ((Keep.refl.new em).new et) pl el
    have D0 := ((hD.new em).new et).new (o := .lst (W8.map V.str)) el
    have K0 : Keep dk dl H _ := ((Keep.refl.new em).new et).new (o := .lst (W8.map V.str)) el
    have nmt : pm ≠ pt := ne_of_none m1 et
    have nml : pm ≠ pl := ne_of_none m2 el
    have ntl : pt ≠ pl := ne_of_none n2 el
    show ∃ W : Nat → Nat → L2.St → Hp → Prop, (∃ m, W 0 m _ (upd (upd (upd H pm (.lst [])) pt (.lst [])) pl (.lst (W8.map V.str)))) ∧ _
    generalize upd (upd (upd H pm (.lst [])) pt (.lst [])) pl (.lst (W8.map V.str)) = H0 at m3 n3 l3 D0 K0
    have om := hD.off em
    have ot := hD.off hnt
    have ol := hD.off hnl
    refine for_list (K := K) (a := pl) (xs := W8.map V.str) (fun i σ H' => ∃ (vs : List V) (ks : List (Str × Int)) (t' : Int) (o3 : Option V), σ = [some (.ref dk), some (.ref pm), some (.ref pt), o3, none, none, none, none, none] ∧ LI dk dl pm H0 H' vs (ks.map kD) ∧ (ks.map (·.1)).Sublist (W8.take i) ∧ (∀ p ∈ ks, 1 ≤ p.2 ∧ p.2 ≤ 3) ∧ vs.length ≤ i ∧ DeckAt H' dk dl t' ∧ t ≤ t' ∧ t' ≤ t + 2 * (i : Int))
      ⟨[], [], t, none, rfl, ⟨m3, .nil, fun _ _ _ _ _ e => e⟩, .slnil, fun _ z => (List.not_mem_nil z).elim, Nat.le_refl _, D0, by omega, by omega⟩ (fun i σ H' _ ⟨vs, ks, t', o3, _, I, _⟩ => SqL.of (I.keep _ _ ol.1 ol.2 nml.symm l3)) ?_ ?_
    · rintro i y σ H' hi ⟨vs, ks, t', o3, rfl, I, sub, num, len, D', ta, tb⟩
      rw [List.getElem?_map] at hi
      obtain ⟨wd, hw, rfl⟩ : ∃ wd, W8[i]? = some wd ∧ y = V.str wd := by
        cases e : W8[i]? with
        | none =>
          rw [e] at hi
          cases hi
        | some z =>
          rw [e] at hi
          exact ⟨z, rfl, (Option.some.inj hi).symm⟩
      have hi8 : i < 8 := (List.getElem?_eq_some_iff.mp hw).1
      have tk : W8.take (i + 1) = W8.take i ++ [wd] := by
        rw [List.take_add_one, hw]
        rfl
      refine ⟨_, rfl, dk, dl, 2, t', rfl, D', by decide, by decide, by omega, by omega, fun r H1 r0 r1 D1 K1 => ⟨rfl, _, rfl, ite2 (fun _ => ?_) (fun _ => ?_)⟩⟩
      · have I1 := I.step D0 om.1 om.2 K1
        refine ⟨_, rfl, .inl ⟨rfl, _, SqL.of I1.at_⟩, _, rfl, _, rfl, dk, dl, 3, t' + 1, rfl, D1, by decide, by decide, by omega, by omega, fun q H2 q0 q1 D2 K2 => ⟨_, _, rfl, rfl, (by show 2 ≤ sizeLine; rw [sizeLine_eq]; decide), fun a ha => ?_⟩⟩
        have I2 := I1.step D0 om.1 om.2 (K2.new (o := .tup [.str wd, .int (1 + q)]) ha)
        have na : H0 a = none := (I1.step D0 om.1 om.2 K2).dom D0 D2 a ha
        have I3 := I2.add (v := .ref a) (d := kD (wd, 1 + q)) (by rw [m3]; simp) (.tup (Nw.at na upd_same) (.cons (.str _) (.cons (.int _) .nil)))
        refine ⟨pm, _, _, rfl, rfl, I2.at_, (by rw [sizeLine_eq]; omega), vs ++ [.ref a], ks ++ [(wd, 1 + q)], t' + 1 + 1, _, rfl, ?_, ?_, ?_, by rw [List.length_append]; simp only [List.length_cons, List.length_nil]; omega, (D2.new ha).set om.1 om.2, by omega, by omega⟩
        · rw [List.map_append]
          exact I3
        · rw [List.map_append, tk]
          exact sub.append (.refl _)
        · intro p hp
          rcases List.mem_append.mp hp with hp | hp
          · exact num p hp
          · simp only [List.mem_cons, List.not_mem_nil, or_false] at hp
            subst hp
            show 1 ≤ 1 + q ∧ 1 + q ≤ 3
            omega
      · refine ⟨vs, ks, t' + 1, _, rfl, I.step D0 om.1 om.2 K1, ?_, num, by omega, D1, by omega, by omega⟩
        rw [tk]
        exact sub.trans (List.sublist_append_left _ _)
    · rintro σ H' ⟨vs, ks, t', o3, rfl, I, sub, num, len, D', ta, tb⟩
      have t16 : t' ≤ t + 16 := by
        have : ((W8.map V.str).length : Int) = 8 := rfl
        omega
      have sub8 : (ks.map (·.1)).Sublist W8 := sub.trans (List.take_sublist _ _)
      have dom0 : ∀ b, H0 b = none → H b = none := hD.dom D0 K0
      have ok0 : DKs (Nw H H') vs (ks.map kD) := DKs.keeps (Nw.mono dom0 (fun b o _ e => e)) _ _ I.ok
      have KH : Keep dk dl H H' := I.keepOf K0 em
      have ept : H' pt = some (.lst []) := I.keep _ _ ot.1 ot.2 nmt.symm n3
      refine fallback hD em I.at_ ok0 D' KH sub8 num rfl (fun pk vs ks H2 KK D2 K2 => ?_)
      have ept2 : H2 pt = some (.lst []) := K2 _ _ ot.1 ot.2 ept
      have hlen : vs.length = ks.length := by
        have := KK.ok.len
        rwa [List.length_map] at this
      have len8 : ks.length ≤ 8 := by
        have := KK.sub.length_le
        rw [List.length_map] at this
        exact this
      have hne : vs ≠ [] := fun z => KK.ne (List.length_eq_zero_iff.mp (by rw [← hlen, z]; rfl))
      have opk := hD.off KK.off
      have npk : pk ≠ pt := fun z => by
        have := KK.at_
        rw [z, ept2] at this
        exact hne (by cases this; rfl)
      have KH2 : Keep dk dl H H2 := KH.trans K2
      clear sub num len ok0 sub8 I
      refine ⟨_, rfl, pk, rfl, ⟨_, SqL.of KK.at_⟩, fun ps eS => ?_⟩
      refine lc_list (K := K) (a := pk) (xs := vs) (fun i H3 => H3 = upd H2 ps (.lst ((singles (ks.take i)).map V.str))) rfl (fun i H3 _ e => by rw [e]; exact SqL.of ((upd_ne (ne_of_none KK.at_ eS)).trans KK.at_)) ?_ ?_
      · rintro i y H3 hi rfl
        obtain ⟨d, e1, h1⟩ := dks_at KK.ok hi
        rw [List.getElem?_map] at e1
        obtain ⟨p, hp, rfl⟩ : ∃ p, ks[i]? = some p ∧ d = kD p := by
          cases e : ks[i]? with
          | none =>
            rw [e] at e1
            cases e1
          | some z =>
            rw [e] at e1
            exact ⟨z, rfl, (Option.some.inj e1).symm⟩
        obtain ⟨a, rfl, ha⟩ := kd_of h1
        have ha2 := nw_some _ _ ha
        have hlt : (singles (ks.take i)).length ≤ 8 := by
          have z1 := singles_len (ks.take i)
          have z2 : (ks.take i).length ≤ ks.length := by rw [List.length_take]; omega
          omega
        refine ⟨a, _, rfl, SqT.of ((upd_ne (ne_of_none ha2 eS)).trans ha2), rfl, _, _, rfl, _, _, rfl, rfl, rfl, _, rfl, rfl, _, rfl, ite2 (fun hb => ?_) (fun hb => ?_)⟩
        · have e2 : p.2 = 1 := by
            have := of_decide_eq_true hb
            injection this
          refine ⟨_, rfl, _, upd_same, by rw [List.length_map, sizeLine_eq]; omega, ?_⟩
          rw [upd_upd, singles_yes hp e2, List.map_append]
          rfl
        · have e2 : p.2 ≠ 1 := fun z => hb (by rw [z]; rfl)
          rw [singles_no hp e2]
      · rintro H3 rfl
        rw [List.take_of_length_le (by rw [hlen]; exact Nat.le_refl _)]
        have kS := D2.new (o := .lst ((singles ks).map V.str)) eS
        have KS : Keep dk dl H2 (upd H2 ps (.lst ((singles ks).map V.str))) := Keep.refl.new eS
        have s3 : upd H2 ps (.lst ((singles ks).map V.str)) ps = some (.lst ((singles ks).map V.str)) := upd_same
        have p3 := (upd_ne (o := .lst ((singles ks).map V.str)) (ne_of_none ept2 eS)).trans ept2
        have k3 := (upd_ne (o := .lst ((singles ks).map V.str)) (ne_of_none KK.at_ eS)).trans KK.at_
        have nS : H ps = none := hD.dom D2 KH2 ps eS
        refine ⟨(by show 6 ≤ sizeLine; rw [sizeLine_eq]; decide), fun pu eu => ⟨pu, rfl, ⟨_, SqL.of upd_same⟩, ?_⟩⟩
        have s4 := (upd_ne (o := .lst (W6.map V.str)) (ne_of_none s3 eu)).trans s3
        have p4 := (upd_ne (o := .lst (W6.map V.str)) (ne_of_none p3 eu)).trans p3
        have k4 := (upd_ne (o := .lst (W6.map V.str)) (ne_of_none k3 eu)).trans k3
        have u4 : upd (upd H2 ps (.lst ((singles ks).map V.str))) pu (.lst (W6.map V.str)) pu = some (.lst (W6.map V.str)) := upd_same
        have DB := kS.new (o := .lst (W6.map V.str)) eu
        have KB : Keep dk dl H2 (upd (upd H2 ps (.lst ((singles ks).map V.str))) pu (.lst (W6.map V.str))) := KS.new eu
        have nU : H pu = none := hD.dom kS (KH2.trans KS) pu eu
        have nsu : ps ≠ pu := ne_of_none s3 eu
        have nsp : ps ≠ pt := (ne_of_none ept2 eS).symm
        have nup : pu ≠ pt := (ne_of_none p3 eu).symm
        show ∃ W : Nat → Nat → L2.St → Hp → Prop, (∃ m, W 0 m _ (upd (upd H2 ps (.lst ((singles ks).map V.str))) pu (.lst (W6.map V.str)))) ∧ _
        generalize upd (upd H2 ps (.lst ((singles ks).map V.str))) pu (.lst (W6.map V.str)) = B at s4 p4 k4 u4 DB KB
        have KHB : Keep dk dl H B := KH2.trans KB
        have oS := hD.off nS
        have oU := hD.off nU
        have kB : ∀ a x, H a = none → H2 a = some (.tup x) → B a = some (.tup x) := fun a x z e => KB a _ (hD.off z).1 (hD.off z).2 e
        refine for_list (K := K) (a := pu) (xs := W6.map V.str) (fun i σ H' => ∃ (ws : List V) (os : List Op) (u : Int) (o3 o4 o6 o7 o8 : Option V), σ = [some (.ref dk), some (.ref pk), some (.ref pt), o3, o4, some (.ref ps), o6, o7, o8] ∧ LI dk dl pt B H' ws (os.map oD) ∧ (os.map (·.w)).Sublist (W6.take i) ∧ (∀ o ∈ os, OpOk ks o) ∧ ws.length ≤ i ∧ DeckAt H' dk dl u ∧ t' ≤ u ∧ u ≤ t' + 10 * (i : Int))
          ⟨[], [], t', _, _, _, _, _, rfl, ⟨p4, .nil, fun _ _ _ _ _ e => e⟩, .slnil, fun _ z => (List.not_mem_nil z).elim, Nat.le_refl _, DB, by omega, by omega⟩ (fun i σ H' _ ⟨_, _, _, _, _, _, _, _, _, I, _⟩ => SqL.of (I.keep _ _ oU.1 oU.2 nup u4)) ?_ ?_
        · rintro i y σ H' hi ⟨ws, os, u, o3, o4, o6, o7, o8, rfl, I, sub, oks, len, D', ta, tb⟩
          rw [List.getElem?_map] at hi
          obtain ⟨wd, hw, rfl⟩ : ∃ wd, W6[i]? = some wd ∧ y = V.str wd := by
            cases e : W6[i]? with
            | none =>
              rw [e] at hi
              cases hi
            | some z =>
              rw [e] at hi
              exact ⟨z, rfl, (Option.some.inj hi).symm⟩
          have hi6 : i < 6 := (List.getElem?_eq_some_iff.mp hw).1
          have tk : W6.take (i + 1) = W6.take i ++ [wd] := by
            rw [List.take_add_one, hw]
            rfl
          refine ⟨_, rfl, dk, dl, 2, u, rfl, D', by decide, by decide, by omega, by omega, fun r H1 r0 r1 D1 K1 => ⟨rfl, _, rfl, ite2 (fun _ => ?_) (fun _ => ?_)⟩⟩
          · have I1 := I.step DB ot.1 ot.2 K1
            refine ⟨_, rfl, _, rfl, dk, dl, pk, u + 1, vs, rfl, D1, opk.2, I1.keep _ _ opk.1 opk.2 npk k4, hne, by omega, by omega, by omega, fun y H5 hy D5 K5 => ?_⟩
            have I5 := I1.step DB ot.1 ot.2 K5
            obtain ⟨d, hd, h1⟩ := dks_mem KK.ok hy
            obtain ⟨⟨c, m⟩, hc, rfl⟩ := List.mem_map.mp hd
            obtain ⟨a, rfl, ha⟩ := kd_of h1
            obtain ⟨ha0, ha2⟩ := Nw.of ha
            have haB := kB _ _ ha0 ha2
            have nat : a ≠ pt := fun z => by
              rw [z, p4] at haB
              cases haB
            have ha5 := I5.keep _ _ (hD.off ha0).1 (hD.off ha0).2 nat haB
            have mb := KK.num _ hc
            refine ⟨a, _, rfl, SqT.of ha5, rfl, _, _, rfl, _, _, rfl, rfl, ?_⟩
            refine ⟨_, rfl, dk, dl, 3, u + 1 + 1, rfl, D5, by decide, by decide, by omega, by omega, fun q H6 q0 q1 D6 K6 => ⟨_, rfl, by omega, by omega, fun pn hn => ?_⟩⟩
            have I6 := I5.step DB ot.1 ot.2 K6
            have nB : B pn = none := I6.dom DB D6 pn hn
            have nn : H pn = none := hD.dom DB KHB pn nB
            have on := hD.off nn
            have Db := D6.new (o := .lst []) hn
            have Kb : Keep dk dl H6 (upd H6 pn (.lst [])) := Keep.refl.new hn
            have s6 : H6 ps = _ := I6.keep _ _ oS.1 oS.2 nsp s4
            have nps : ps ≠ pn := ne_of_none s6 hn
            have sb : upd H6 pn (.lst []) ps = _ := (upd_ne nps).trans s6
            refine lc_range (lo := 0) (n := q.toNat) (fun j H7 => ∃ (vn : List V) (ns : List PyData) (x : Int), LI dk dl pn (upd H6 pn (.lst [])) H7 vn ns ∧ (∀ d ∈ ns, NeedOk m (singles ks) d) ∧ vn.length = j ∧ DeckAt H7 dk dl x ∧ u + 3 ≤ x ∧ x ≤ u + 3 + 3 * (j : Int))
              ⟨[], [], u + 1 + 1 + 1, ⟨upd_same, .nil, fun _ _ _ _ _ e => e⟩, fun _ z => (List.not_mem_nil z).elim, rfl, Db, by omega, by omega⟩ ?_ ?_
            · rintro j H7 hj ⟨vn, ns, x, In, nok, nl, D7, xa, xb⟩
              refine ⟨rfl, ?_⟩
              unfold tYes
              dsimp only
              rw [if_pos rfl]
              have z1 := singles_len ks
              refine ⟨_, rfl, _, rfl, _, rfl, dk, dl, ps, x, m, singles ks, rfl, D7, oS.2, In.keep _ _ oS.1 oS.2 nps sb, by omega, mb.1, mb.2, fun c hc => sub_w8 KK.sub _ (singles_mem hc), by omega, by omega, fun v d x' H8 D8 xc xd K8 hv hd => ?_⟩
              have I8 := In.step Db on.1 on.2 K8
              have I9 := I8.add (by rw [upd_same]; simp) (DK.keeps (Nw.mono (In.dom Db D7) (fun b o _ e => e)) _ _ hv)
              refine ⟨vn, I8.at_, by rw [sizeLine_eq]; omega, _, _, x', I9, fun d' hd' => ?_, by rw [List.length_append, nl]; rfl, D8.set on.1 on.2, by omega, by omega⟩
              rcases List.mem_append.mp hd' with h | h
              · exact nok _ h
              · simp only [List.mem_cons, List.not_mem_nil, or_false] at h
                rw [h]
                exact hd
            · rintro H7 ⟨vn, ns, x, In, nok, nl, D7, xa, xb⟩
              refine ⟨pn, vn, rfl, .inl ⟨SqL.of In.at_, fun p7 e7 => ?_⟩⟩
              have K67 : Keep dk dl H6 H7 := In.keepOf Kb hn
              have I7 := I6.step DB ot.1 ot.2 (K67.new (o := .tup vn) e7)
              have D7' := D7.new (o := .tup vn) e7
              have n7 : B p7 = none := (I6.step DB ot.1 ot.2 K67).dom DB D7 p7 e7
              have n7b : upd H6 pn (.lst []) p7 = none := In.dom Db D7 p7 e7
              refine ⟨_, rfl, .inl ⟨rfl, _, SqL.of I7.at_⟩, _, rfl, _, rfl, _, rfl, _, rfl, dk, dl, m, x, rfl, D7', mb.1, by omega, by omega, by omega, fun g H9 g0 g1 D9 K9 => ⟨_, rfl, (by show 4 ≤ sizeLine; rw [sizeLine_eq]; decide), fun p9 e9 => ?_⟩⟩
              have K79 : Keep dk dl (upd H7 p7 (.tup vn)) (upd H9 p9 (.tup [.str wd, .str c, .int g, .ref p7])) := K9.new e9
              have I9 := I7.step DB ot.1 ot.2 K79
              have n9 : B p9 = none := (I7.step DB ot.1 ot.2 K9).dom DB D9 p9 e9
              have o7 := hD.off (hD.dom DB KHB p7 n7)
              have a7 : upd H9 p9 (.tup [.str wd, .str c, .int g, .ref p7]) p7 = some (.tup vn) := K79 _ _ o7.1 o7.2 upd_same
              have kn : DKs (Nw B (upd H9 p9 (.tup [.str wd, .str c, .int g, .ref p7]))) vn ns := DKs.keeps (Nw.mono (fun b z => by
                  by_cases y : b = pn
                  · rw [y]; exact nB
                  · exact I6.dom DB D6 b ((upd_ne y).symm.trans z)) (fun b o z e => K79 b o (Db.off z).1 (Db.off z).2 ((upd_ne (ne_of_none e e7)).trans e))) _ _ In.ok
              have nel : DK (Nw B (upd H9 p9 (.tup [.str wd, .str c, .int g, .ref p7]))) (.ref p9) (oD ⟨wd, c, g, ns⟩) := .tup (Nw.at n9 upd_same) (.cons (.str _) (.cons (.str _) (.cons (.int _) (.cons (.tup (Nw.at n7 a7) kn) .nil))))
              have IA := I9.add (by rw [p4]; simp) nel
              have nsl : ns.length ≤ 2 := by
                have := In.ok.len
                omega
              refine ⟨pt, _, _, rfl, rfl, I9.at_, (by rw [sizeLine_eq]; omega), ws ++ [.ref p9], os ++ [⟨wd, c, g, ns⟩], x + 1, _, _, _, _, _, rfl, ?_, ?_, ?_, by rw [List.length_append]; simp only [List.length_cons, List.length_nil]; omega, (D9.new e9).set ot.1 ot.2, by omega, by omega⟩
              · rw [List.map_append]
                exact IA
              · rw [List.map_append, tk]
                exact sub.append (.refl _)
              · intro o ho
                rcases List.mem_append.mp ho with h | h
                · exact oks _ h
                · simp only [List.mem_cons, List.not_mem_nil, or_false] at h
                  subst h
                  exact ⟨m, hc, g0, g1, nsl, nok⟩
          · refine ⟨ws, os, u + 1, _, _, _, _, _, rfl, I.step DB ot.1 ot.2 K1, ?_, oks, by omega, D1, by omega, by omega⟩
            rw [tk]
            exact sub.trans (List.sublist_append_left _ _)
        · rintro σ H' ⟨ws, os, u, o3, o4, o6, o7, o8, rfl, I, sub, oks, len, D', ta, tb⟩
          have o6 : ((W6.map V.str).length : Int) = 6 := rfl
          have KF : Keep dk dl H H' := I.keepOf KHB hnt
          refine ⟨_, rfl, pk, vs, rfl, SqL.of (I.keep _ _ opk.1 opk.2 npk k4), fun p1 oz e1 oz0 => ⟨_, rfl, pt, ws, rfl, .inl ⟨SqL.of ((upd_ne (ne_of_none I.at_ e1)).trans I.at_), fun p2 e2 => ⟨(by show 2 ≤ sizeLine; rw [sizeLine_eq]; decide), fun p3 e3 => ?_⟩⟩⟩⟩
          have D1 := D'.new (o := .frz oz (.tup vs)) e1
          have D2 := D1.new (o := .tup ws) e2
          have D3 := D2.new (o := .tup [.ref p1, .ref p2]) e3
          have K1 := KF.new (o := .frz oz (.tup vs)) e1
          have K2 := K1.new (o := .tup ws) e2
          have K3 := K2.new (o := .tup [.ref p1, .ref p2]) e3
          have n1 := hD.dom D' KF p1 e1
          have n2 := hD.dom D1 K1 p2 e2
          have n3 := hD.dom D2 K2 p3 e3
          have a1 : upd (upd (upd H' p1 (.frz oz (.tup vs))) p2 (.tup ws)) p3 (.tup [.ref p1, .ref p2]) p1 = some (.frz oz (.tup vs)) := by
            have x1 : upd H' p1 (.frz oz (.tup vs)) p1 = some (.frz oz (.tup vs)) := upd_same
            have x2 := (upd_ne (o := .tup ws) (ne_of_none x1 e2)).trans x1
            exact (upd_ne (ne_of_none x2 e3)).trans x2
          have a2 : upd (upd (upd H' p1 (.frz oz (.tup vs))) p2 (.tup ws)) p3 (.tup [.ref p1, .ref p2]) p2 = some (.tup ws) := by
            have x2 : upd (upd H' p1 (.frz oz (.tup vs))) p2 (.tup ws) p2 = some (.tup ws) := upd_same
            exact (upd_ne (ne_of_none x2 e3)).trans x2
          have up : ∀ b o, H' b = some o → upd (upd (upd H' p1 (.frz oz (.tup vs))) p2 (.tup ws)) p3 (.tup [.ref p1, .ref p2]) b = some o := fun b o e => by
            have x1 := (upd_ne (o := .frz oz (.tup vs)) (ne_of_none e e1)).trans e
            have x2 := (upd_ne (o := .tup ws) (ne_of_none x1 e2)).trans x1
            exact (upd_ne (ne_of_none x2 e3)).trans x2
          refine k p3 p1 p2 vs ws ks os u _ D3 (by omega) (by omega) K3 n3 n1 n2 upd_same ⟨oz, a1, oz0⟩ a2 ?_ ?_ ⟨KK.ne, KK.sub, KK.num, ?_, oks⟩
          · refine kds_keeps (fun a x e => ?_) _ _ KK.ok
            obtain ⟨z1, z2⟩ := Nw.of e
            have z3 := kB _ _ z1 z2
            have nat : a ≠ pt := fun z => by
              rw [z, p4] at z3
              cases z3
            exact Nw.at z1 (up _ _ (I.keep _ _ (hD.off z1).1 (hD.off z1).2 nat z3))
          · exact DKs.keeps (Nw.mono (hD.dom DB KHB) fun b o _ e => up b o e) _ _ I.ok
          · exact sub.trans (List.take_sublist _ _)
end
end K06

set_option Elab.async false
set_option linter.all false
set_option maxRecDepth 100000
set_option maxHeartbeats 4000000
/-! Words, integers, ascending words. -/
namespace K06
open PySem PySem.Spec PyProof.Rows L2 Mine
abbrev sWord : Stmt := top 8
abbrev sInt : Stmt := top 18
abbrev sAsc : Stmt := top 9
def WW : List Str := W8 ++ W6 ++ [PySem.Str.ofString "sign", PySem.Str.ofString "shown", PySem.Str.ofString "signed", PySem.Str.ofString "unseal"]
def ABC : Str := PySem.Str.ofString "abcdefghijklmnopqrstuvwxyz"
theorem ww_len : ∀ x ∈ WW, 1 ≤ x.length ∧ x.length ≤ 8 := by decide +kernel
theorem ww_abc : ∀ x ∈ WW, ∀ c ∈ x.cps.toList, c ∈ ABC.cps.toList := by decide +kernel
def spWord : Sp := fun vs H Q _ => ∃ x, x ∈ WW ∧ vs = [.str x] ∧ ∀ H', Same H H' → Q (.bl true) H'
structure TxtW (mg : Str → Option Value) : Prop where
  isi : mg "isinstance" = none
  str : mg "str" = none
  int : mg "int" = none
  bool : mg "bool" = none
  tuple : mg "tuple" = none
  len : mg "len" = none
  all : mg "all" = none
  zip : mg "zip" = none
  dict : mg "dict" = none
  longest : ∃ u, mg "LONGEST" = some u ∧ RelV (.int 8) u
  letters : ∃ u, mg "LETTERS" = some u ∧ RelV (.str ABC) u
theorem rep_all (n : Nat) : (List.replicate n true).all id = true := by
  induction n with
  | zero => rfl
  | succ n ih => rw [List.replicate_succ, List.all_cons, ih]; rfl
theorem rep_snoc (n : Nat) : (List.replicate (n + 1) true).map V.bl = (List.replicate n true).map V.bl ++ [V.bl true] := by
  rw [List.replicate_succ', List.map_append]
  rfl
section
variable {P : Program} {w : World} {K : PySem.W.Frag} {mg : Str → Option Value} {base : Heap}
theorem scWord : FnScope ["thing", "sign"] ["thing"] (defScope sWord) := ⟨rfl, rfl, rfl, by decide +kernel, rfl, by decide +kernel, by decide +kernel⟩
theorem ok_word {f : Addr} {fd : FuncData} (F : Fun K "is_word" "is_word" sWord f fd) (T : TxtW mg) : FnOk P w K mg base CX0 1 f fd ["thing"] spWord := by
  refine F.ok scWord (fun vs H Q E h => ?_) (fun cdv A outer s H vs Q E hr h => ?_)
  · obtain ⟨x, _, rfl, _⟩ := h
    rfl
  · obtain ⟨x, hx, rfl, k⟩ := h
    refine ⟨_, pss_cons (ps_if (PW.pt (pw_or (pt_not (pt_val (pe_callB call_isi (by rfl) T.isi (by decide +kernel) (pa_cons (pv 0) (pa_cons (pe_bltn (v := .ty "str") rfl T.str (by decide +kernel) rfl) pa_nil)))))
        (pw_or1 (pt_not (pt_chain op_le op_le pe_int (pe_callB call_len_str (by rfl) T.len PySem.boot_len (pa_cons (pv 0) pa_nil)) (C8.pe_gc (v := .int 8) rfl T.longest)))))) (pss_one (ps_ret pe_bl)) pss_nil)
      (pss_one (ps_ret (pe_callB (cr_all rfl) (by rfl) T.all (by decide +kernel) (pa_cons (pe_lc (own := [("sign", 1)]) (g := gName 1) (tt := tYes) rfl scWord.nd (pi_str (pv 0))
        (blkOk_by (own := [("sign", 1)]) (N := ["thing", "sign"]) (sc := defScope sWord) (by decide +kernel))
        (fun _ _ _ _ _ => pg_name (i := 1) scWord.nd rfl (Or.inl rfl)) (fun _ _ _ _ _ => pts_nil) (fun _ _ _ _ _ => pe_cmpR op_in_sign (pv 1) (C8.pe_gc (v := .str ABC) (by rfl) T.letters) (by with_unfolding_all rfl))) pa_nil)))), ?_⟩
    have hl := ww_len x hx
    refine ⟨_, rfl, _, _, _, _, true, rfl, .ty "str", .base (.str x), kit_ty rfl, _, rfl, ite2 (fun z => absurd z (by decide)) (fun _ => ?_)⟩
    refine ⟨_, rfl, x, rfl, (by rw [sizeLine_eq]; omega), _, _, rfl, rfl, _, rfl, ite2 (fun _ => ?_) (fun z => absurd (decide_eq_true (by omega)) z)⟩
    refine ⟨_, _, rfl, rfl, _, rfl, ite2 (fun z => ?_) (fun _ => ?_)⟩
    · have : decide ((x.length : Int) ≤ 8) = true := decide_eq_true (by omega)
      rw [this] at z
      cases z
    · refine ⟨_, rfl, x, rfl, fun D hD => ?_⟩
      refine lc_it walk_str (fun i H' => H' = upd H D (.lst ((List.replicate i true).map V.bl))) rfl (fun _ _ _ _ => trivial) ?_ ?_
      · rintro i y H1 H2 hi rfl ⟨rfl, c, hc, rfl⟩
        refine ⟨rfl, ?_⟩
        unfold tYes
        dsimp only
        rw [if_pos rfl]
        have hm : c ∈ ABC.cps.toList := ww_abc x hx c (List.mem_of_getElem? (by rw [Array.getElem?_toList]; exact hc))
        refine ⟨_, rfl, c, _, rfl, rfl, _, upd_same, ?_, ?_⟩
        · have hs : x.cps.size = x.length := rfl
          rw [List.length_map, List.length_replicate, sizeLine_eq]
          omega
        · rw [upd_upd, decide_eq_true hm, rep_snoc]
      · rintro H1 rfl
        refine ⟨D, _, rfl, SqL.of upd_same, ?_⟩
        rw [rep_all]
        exact k _ (same_new same_rfl hD)
theorem scInt : FnScope ["value", "low", "high"] ["value", "low", "high"] (defScope sInt) := ⟨rfl, rfl, rfl, by decide +kernel, rfl, by decide +kernel, by decide +kernel⟩
def spInt : Sp := fun vs H Q _ => ∃ v lo hi : Int, vs = [.int v, .int lo, .int hi] ∧ lo ≤ v ∧ v ≤ hi ∧ Q (.bl true) H
theorem ok_int {f : Addr} {fd : FuncData} (F : Fun K "_is_integer" "_is_integer" sInt f fd) (T : TxtW mg) : FnOk P w K mg base CX0 1 f fd ["value", "low", "high"] spInt := by
  refine F.ok scInt (fun vs H Q E h => ?_) (fun cdv A outer s H vs Q E hr h => ?_)
  · obtain ⟨_, _, _, rfl, _⟩ := h
    rfl
  · obtain ⟨v, lo, hi, rfl, h1, h2, k⟩ := h
    refine ⟨_, pss_one (ps_ret (pe_and (pe_callB call_isi (by rfl) T.isi (by decide +kernel) (pa_cons (pv 0) (pa_cons (pe_bltn (v := .ty "int") rfl T.int (by decide +kernel) rfl) pa_nil)))
      (pe_and (pe_not (pe_callB call_isi (by rfl) T.isi (by decide +kernel) (pa_cons (pv 0) (pa_cons (pe_bltn (v := .ty "bool") rfl T.bool (by decide +kernel) rfl) pa_nil))))
      (pe_one (pe_chain op_le op_le (pv 1) (pv 0) (pv 2)))))), ?_⟩
    refine ⟨_, rfl, _, _, _, _, true, rfl, .ty "int", .base (.int v), kit_ty rfl, _, rfl, ite2 (fun _ => ?_) (fun z => absurd rfl z)⟩
    refine ⟨_, rfl, _, _, _, _, false, rfl, .ty "bool", .base (.int v), kit_ty (by decide +kernel), _, rfl, _, rfl, ite2 (fun _ => ?_) (fun z => absurd rfl z)⟩
    refine ⟨_, rfl, _, rfl, _, _, rfl, rfl, _, rfl, ite2 (fun _ => ?_) (fun z => absurd (decide_eq_true h1) z)⟩
    refine ⟨_, rfl, _, _, rfl, rfl, ?_⟩
    dsimp only
    rw [decide_eq_true h2]
    exact k
theorem cut1 (xs : List V) : cutV xs (some 1) none = xs.drop 1 := by
  unfold cutV HT.sIx
  cases xs with
  | nil => rfl
  | cons x r => simp
theorem scAsc : FnScope ["texts", "left", "right"] ["texts"] (defScope sAsc) := ⟨rfl, rfl, rfl, by decide +kernel, rfl, by decide +kernel, by decide +kernel⟩
def Asc (ws : List Str) : Prop := ∀ (i : Nat) (a b : Str), ws[i]? = some a → ws[i + 1]? = some b → a.cps.toList < b.cps.toList
def spAsc : Sp := fun vs H Q _ => ∃ (p : Addr) (ws : List Str), vs = [.ref p] ∧ H p = some (.lst (ws.map V.str)) ∧ ws.length ≤ 1000 ∧ Asc ws ∧ ∀ H', Same H H' → Q (.bl true) H'
theorem ok_asc {f : Addr} {fd : FuncData} (F : Fun K "ascends" "ascends" sAsc f fd) (T : TxtW mg) : FnOk P w K mg base CX0 1 f fd ["texts"] spAsc := by
  refine F.ok scAsc (fun vs H Q E h => ?_) (fun cdv A outer s H vs Q E hr h => ?_)
  · obtain ⟨_, _, rfl, _⟩ := h
    rfl
  · obtain ⟨p, ws, rfl, hp, hl, ha, k⟩ := h
    refine ⟨_, pss_one (ps_ret (pe_callB (cr_all rfl) (by rfl) T.all (by decide +kernel) (pa_cons (pe_lc (own := [("left", 1), ("right", 2)]) (g := gTup K 2 (gCons (gName 1) (gCons (gName 2) gNil))) (tt := tYes) rfl scAsc.nd
        (pi_zip (by rfl) T.zip (pa_cons (pv 0) (pa_cons (pe_slice sl_list (pv 0) (po_some pe_int) po_none) pa_nil)))
        (blkOk_by (own := [("left", 1), ("right", 2)]) (N := ["texts", "left", "right"]) (sc := defScope sAsc) (by decide +kernel))
        (fun _ _ _ _ _ => pg_tup rfl (pgs_cons (pg_name (i := 1) scAsc.nd rfl (Or.inl rfl)) (pgs_cons (pg_name (i := 2) scAsc.nd rfl (Or.inl rfl)) pgs_nil))) (fun _ _ _ _ _ => pts_nil) (fun _ _ _ _ _ => pe_cmpR op_lt_str (pv 1) (pv 2) (nomark _))) pa_nil))), ?_⟩
    refine ⟨_, rfl, _, rfl, _, rfl, p, _, rfl, SqL.of hp, fun q hq => ?_⟩
    rw [cut1]
    have s1 : Same H (upd H q (.lst ((ws.map V.str).drop 1))) := same_new same_rfl hq
    refine ⟨p, q, _, _, rfl, SqL.of (s1 _ _ hp), SqL.of upd_same, fun D hD => ?_⟩
    have s2 := same_new (o := .lst []) s1 hD
    have eq0 : upd H q (.lst ((ws.map V.str).drop 1)) q = some (.lst ((ws.map V.str).drop 1)) := upd_same
    have nqD : q ≠ D := ne_of_none eq0 hD
    have npD : p ≠ D := ne_of_none (s1 _ _ hp) hD
    refine lc_it (walk_zip rfl) (fun i H' => H' D = some (.lst ((List.replicate i true).map V.bl)) ∧ H' p = some (.lst (ws.map V.str)) ∧ H' q = some (.lst ((ws.map V.str).drop 1)) ∧ Same H H') ⟨upd_same, s2 _ _ hp, (upd_ne nqD).trans eq0, s2⟩ (fun _ _ _ h => ⟨SqL.of h.2.1, SqL.of h.2.2.1⟩) ?_ ?_
    · rintro i y H1 H2 hi ⟨e1, e2, e3, e4⟩ ⟨t, x, z, rfl, ht, rfl, hx, hz⟩
      have hx : (ws.map V.str)[i]? = some x := hx
      have hz : ((ws.map V.str).drop 1)[i]? = some z := hz
      rw [List.getElem?_map] at hx
      rw [List.getElem?_drop, List.getElem?_map] at hz
      obtain ⟨a, ha1, rfl⟩ := Option.map_eq_some_iff.mp hx
      obtain ⟨b, hb1, rfl⟩ := Option.map_eq_some_iff.mp hz
      refine ⟨t, _, rfl, SqT.of upd_same, rfl, _, _, rfl, _, _, rfl, rfl, rfl, ?_⟩
      unfold tYes
      dsimp only
      rw [if_pos rfl]
      have lt := ha i a b ha1 (by rw [Nat.add_comm]; exact hb1)
      have u1 := (upd_ne (o := .tup [.str a, .str b]) (ne_of_none e1 ht)).trans e1
      have u2 := (upd_ne (o := .tup [.str a, .str b]) (ne_of_none e2 ht)).trans e2
      have u3 := (upd_ne (o := .tup [.str a, .str b]) (ne_of_none e3 ht)).trans e3
      have u4 := same_new (o := .tup [.str a, .str b]) e4 ht
      refine ⟨_, rfl, _, rfl, a, b, rfl, rfl, _, u1, ?_, ?_, (upd_ne npD).trans u2, (upd_ne nqD).trans u3, ?_⟩
      · rw [List.length_map, List.length_replicate, sizeLine_eq]
        have := (List.getElem?_eq_some_iff.mp ha1).1
        omega
      · rw [upd_same, decide_eq_true lt, rep_snoc]
      · intro c o e
        have hDn : H D = none := by
          cases zz : H D with
          | none => rfl
          | some o => rw [s1 _ _ zz] at hD; cases hD
        exact (upd_ne (ne_of_none e hDn)).trans (u4 c o e)
    · rintro H1 ⟨e1, e2, e3, e4⟩
      refine ⟨D, _, rfl, SqL.of e1, ?_⟩
      rw [rep_all]
      exact k _ e4
end
end K06

set_option Elab.async false
set_option linter.all false
set_option maxRecDepth 100000
set_option maxHeartbeats 4000000
/-! The parts of a book are looked at: kinds. -/
namespace K06
open PySem PySem.Spec PyProof.Rows L2 Mine
abbrev sKinds : Stmt := top 19
abbrev sKindQ : Stmt := top 20
theorem sqT_same {K : PySem.W.Frag} {H H' : Hp} {a : Addr} {xs : List V} (k : Same H H') (h : SqT K H a xs) : SqT K H' a xs := by
  rcases h with (h | ⟨o, h⟩) | h
  · exact .inl (.inl (k _ _ h))
  · exact .inl (.inr ⟨o, k _ _ h⟩)
  · exact .inr h
theorem tupN_same {K : PySem.W.Frag} {H H' : Hp} {a : Addr} {xs : List V} (k : Same H H') (h : TupN K H a xs) : TupN K H' a xs := by
  rcases h with ⟨o, e, d⟩ | ⟨h, r⟩
  · exact .inl ⟨o, k _ _ e, d⟩
  · exact .inr ⟨sqT_same k h, r⟩
theorem sqT_ty {K : PySem.W.Frag} {H : Hp} {a : Addr} {xs : List V} (h : SqT K H a xs) : TyX K H (.ref a) (.type "tuple") := by
  rcases h with (h | ⟨o, h⟩) | ⟨o, its, n, e, c, _⟩
  · exact .base (.tup h)
  · exact .fTuple h
  · exact .kTuple e c
/-- kinds with their numbers, wherever they stand -/
structure KindsAt (K : PySem.W.Frag) (H : Hp) (kk : Addr) (ps : List Addr) (ks : List (Str × Int)) : Prop where
  at_ : TupN K H kk (ps.map V.ref)
  each : Paired (fun a p => SqT K H a [.str p.1, .int p.2]) ps ks
theorem paired_at {α β : Type} {R : α → β → Prop} : ∀ {as : List α} {bs : List β} {i : Nat} {a : α}, Paired R as bs → as[i]? = some a → ∃ b, bs[i]? = some b ∧ R a b
  | _, _, 0, a, .cons h _, e => ⟨_, rfl, by cases e; exact h⟩
  | _, _, i + 1, a, .cons _ r, e => by
    obtain ⟨b, e1, h1⟩ := paired_at r (i := i) e
    exact ⟨b, e1, h1⟩
theorem paired_mono {α β : Type} {R S : α → β → Prop} (f : ∀ a b, R a b → S a b) : ∀ {as : List α} {bs : List β}, Paired R as bs → Paired S as bs
  | _, _, .nil => .nil
  | _, _, .cons h r => .cons (f _ _ h) (paired_mono f r)
theorem KindsAt.same {K : PySem.W.Frag} {H H' : Hp} {kk : Addr} {ps : List Addr} {ks : List (Str × Int)} (h : KindsAt K H kk ps ks) (k : Same H H') : KindsAt K H' kk ps ks :=
  ⟨tupN_same k h.at_, paired_mono (fun _ _ => sqT_same k) h.each⟩
theorem KindsAt.len {K : PySem.W.Frag} {H : Hp} {kk : Addr} {ps : List Addr} {ks : List (Str × Int)} (h : KindsAt K H kk ps ks) : ps.length = ks.length := h.each.length
/-- what is asked of kinds -/
structure KsOk (ks : List (Str × Int)) : Prop where
  ne : ks ≠ []
  ww : ∀ p ∈ ks, p.1 ∈ WW
  num : ∀ p ∈ ks, 1 ≤ p.2 ∧ p.2 ≤ 3
  asc : Asc (ks.map (·.1))
  nd : (ks.map (·.1)).Nodup
  len : ks.length ≤ 20
/-- the numbers of parts as a dict tells them -/
def Cnt (H : Hp) (cd : Addr) (ks : List (Str × Int)) : Prop := ∃ kvs : List (Key × V), H cd = some (.dK kvs) ∧ (∀ p ∈ ks, valV kvs (.inr p.1) = some (.int p.2)) ∧ ∀ c, c ∉ ks.map (·.1) → valV kvs (.inr c) = none
theorem Cnt.same {H H' : Hp} {cd : Addr} {ks : List (Str × Int)} (h : Cnt H cd ks) (k : Same H H') : Cnt H' cd ks := let ⟨kvs, e, r⟩ := h; ⟨kvs, k _ _ e, r⟩
abbrev kvOf (p : Str × Int) : Key × V := (.inr p.1, .int p.2)
theorem merge_no {c : Str} : ∀ (ks : List (Str × Int)) (acc : List (Key × V)), c ∉ ks.map (·.1) → valV (mergeK acc (ks.map kvOf)) (.inr c) = valV acc (.inr c)
  | [], _, _ => rfl
  | p :: r, acc, h => by
    rw [List.map_cons, List.mem_cons, not_or] at h
    show valV (mergeK (putK acc (Sum.inr p.1) (.int p.2)) (r.map kvOf)) (.inr c) = _
    rw [merge_no r _ h.2, valV_put, if_neg]
    intro z
    injection z with z
    exact h.1 z
theorem merge_yes {p : Str × Int} : ∀ (ks : List (Str × Int)) (acc : List (Key × V)), (ks.map (·.1)).Nodup → p ∈ ks → valV (mergeK acc (ks.map kvOf)) (.inr p.1) = some (.int p.2)
  | [], _, _, h => (List.not_mem_nil h).elim
  | q :: r, acc, nd, h => by
    rw [List.map_cons, List.nodup_cons] at nd
    show valV (mergeK (putK acc (Sum.inr q.1) (.int q.2)) (r.map kvOf)) (.inr p.1) = _
    rcases List.mem_cons.mp h with rfl | h
    · rw [merge_no r _ nd.1, valV_put, if_pos rfl]
    · exact merge_yes r _ nd.2 h
theorem cnt_new {H : Hp} {cd : Addr} {ks : List (Str × Int)} (nd : (ks.map (·.1)).Nodup) : Cnt (upd H cd (.dK (mergeK [] (ks.map kvOf)))) cd ks :=
  ⟨_, upd_same, fun _ hp => merge_yes ks [] nd hp, fun _ hc => by rw [merge_no ks [] hc]; rfl⟩
theorem paired_kv {K : PySem.W.Frag} {H : Hp} : ∀ {ps : List Addr} {ks : List (Str × Int)}, Paired (fun a p => SqT K H a [.str p.1, .int p.2]) ps ks → Paired (fun p kv => SqT K H p [kV kv.1, kv.2]) ps (ks.map kvOf)
  | _, _, .nil => .nil
  | _, _, .cons h r => .cons h (paired_kv r)
/-- what the defs of the book need of the text -/
structure TxtB (K : PySem.W.Frag) (mg : Str → Option Value) (fW fI fA : Addr) : Prop extends TxtW mg where
  gW : mg "is_word" = some (.ref fW)
  kW : PySem.W.keepIn K (.ref fW) = true
  gI : mg "_is_integer" = some (.ref fI)
  kI : PySem.W.keepIn K (.ref fI) = true
  gA : mg "ascends" = some (.ref fA)
  kA : PySem.W.keepIn K (.ref fA) = true
  mostP : ∃ u, mg "MOST_PARTS" = some u ∧ RelV (.int 3) u
  mostN : ∃ u, mg "MOST_NEEDS" = some u ∧ RelV (.int 2) u
section
variable {P : Program} {w : World} {K : PySem.W.Frag} {mg : Str → Option Value} {base : Heap}
/-- the three defs below -/
structure Lows (P : Program) (w : World) (K : PySem.W.Frag) (mg : Str → Option Value) (base : Heap) (fW fI fA : Addr) (dW dI dA : FuncData) : Prop where
  W : FnOk P w K mg base CX0 1 fW dW ["thing"] spWord
  bW : Binds K dW ["thing"] []
  I : FnOk P w K mg base CX0 1 fI dI ["value", "low", "high"] spInt
  bI : Binds K dI ["value", "low", "high"] []
  A : FnOk P w K mg base CX0 1 fA dA ["texts"] spAsc
  bA : Binds K dA ["texts"] []
theorem scKindQ : FnScope ["kind"] ["kind"] (defScope sKindQ) := ⟨rfl, rfl, rfl, by decide +kernel, rfl, by decide +kernel, by decide +kernel⟩
def spKindQ (K : PySem.W.Frag) : Sp := fun vs H Q _ => ∃ (a : Addr) (c : Str) (m : Int), vs = [.ref a] ∧ SqT K H a [.str c, .int m] ∧ c ∈ WW ∧ 1 ≤ m ∧ m ≤ 3 ∧ ∀ H', Same H H' → Q (.bl true) H'
theorem ok_kindQ {f fW fI fA : Addr} {fd dW dI dA : FuncData} (F : Fun K "_is_kind" "_is_kind" sKindQ f fd) (T : TxtB K mg fW fI fA) (L : Lows P w K mg base fW fI fA dW dI dA) : FnOk P w K mg base CX0 2 f fd ["kind"] (spKindQ K) := by
  refine F.ok scKindQ (fun vs H Q E h => ?_) (fun cdv A outer s H vs Q E hr h => ?_)
  · obtain ⟨_, _, _, rfl, _⟩ := h
    rfl
  · obtain ⟨a, c, m, rfl, ha, hc, m1, m3, k⟩ := h
    refine ⟨_, pss_cons (ps_if (PW.pt (pw_or (pt_not (pt_val (pe_callB call_isi (by rfl) T.isi (by decide +kernel) (pa_cons (pv 0) (pa_cons (pe_bltn (v := .ty "tuple") rfl T.tuple (by decide +kernel) rfl) pa_nil)))))
        (pw_or1 (pt_cmpR op_ne (pe_callB call_len_seq (by rfl) T.len PySem.boot_len (pa_cons (pv 0) pa_nil)) pe_int (nomark _))))) (pss_one (ps_ret pe_bl)) pss_nil)
      (pss_one (ps_ret (pe_and (pe_call L.W hr rfl T.gW T.kW L.bW .nil pass0 (pa_cons (pe_ix ix_tup (pv 0) pe_int (fun _ _ => rfl)) pa_nil))
        (pe_one (pe_call L.I hr rfl T.gI T.kI L.bI .nil pass0 (pa_cons (pe_ix ix_tup (pv 0) pe_int (fun _ _ => rfl)) (pa_cons pe_int (pa_cons (C8.pe_gc (v := .int 3) rfl T.mostP) pa_nil)))))))), ?_⟩
    refine ⟨_, rfl, _, _, _, _, true, rfl, .ty "tuple", sqT_ty ha, kit_ty rfl, _, rfl, ite2 (fun z => absurd z (by decide)) (fun _ => ?_)⟩
    refine ⟨_, rfl, a, _, rfl, .inr ha, rfl, _, rfl, ite2 (fun z => absurd z (by show ¬ (!decide (V.int ((2 : Nat) : Int) = V.int 2)) = true; decide)) (fun _ => ?_)⟩
    refine ⟨_, rfl, a, _, _, _, rfl, rfl, ha, rfl, c, hc, rfl, fun H1 k1 => ⟨_, rfl, ite2 (fun _ => ?_) (fun z => absurd rfl z)⟩⟩
    exact ⟨_, rfl, a, _, _, _, rfl, rfl, sqT_same k1 ha, rfl, m, 1, 3, rfl, m1, m3, k _ k1⟩
theorem scKinds : FnScope ["kinds", "kind"] ["kinds"] (defScope sKinds) := ⟨rfl, rfl, rfl, by decide +kernel, rfl, by decide +kernel, by decide +kernel⟩
def spKinds (K : PySem.W.Frag) : Sp := fun vs H Q _ => ∃ (kk : Addr) (ps : List Addr) (ks : List (Str × Int)), vs = [.ref kk] ∧ KindsAt K H kk ps ks ∧ KsOk ks ∧ ∀ H', Same H H' → Q (.bl true) H'
theorem ok_kinds {f fQ fW fI fA : Addr} {fd dQ dW dI dA : FuncData} (F : Fun K "_are_kinds" "_are_kinds" sKinds f fd) (T : TxtB K mg fW fI fA) (L : Lows P w K mg base fW fI fA dW dI dA)
    (G : FnOk P w K mg base CX0 2 fQ dQ ["kind"] (spKindQ K)) (bG : Binds K dQ ["kind"] []) (gQ : mg "_is_kind" = some (.ref fQ)) (kQ : PySem.W.keepIn K (.ref fQ) = true) : FnOk P w K mg base CX0 3 f fd ["kinds"] (spKinds K) := by
  refine F.ok scKinds (fun vs H Q E h => ?_) (fun cdv A outer s H vs Q E hr h => ?_)
  · obtain ⟨_, _, _, rfl, _⟩ := h
    rfl
  · obtain ⟨kk, ps, ks, rfl, hk, ok, k⟩ := h
    have hr1 : Room 1 _ := hr.mono (by decide)
    have hl := hk.len
    have hlen := ok.len
    refine ⟨_, pss_cons (ps_if (PW.pt (pw_or (pt_not (pt_val (pe_callB call_isi (by rfl) T.isi (by decide +kernel) (pa_cons (pv 0) (pa_cons (pe_bltn (v := .ty "tuple") rfl T.tuple (by decide +kernel) rfl) pa_nil)))))
        (pw_or1 (pt_cmpR op_eq (pe_callB call_len_seq (by rfl) T.len PySem.boot_len (pa_cons (pv 0) pa_nil)) pe_int (nomark _))))) (pss_one (ps_ret pe_bl)) pss_nil)
      (pss_one (ps_ret (pe_and (pe_callB (cr_all rfl) (by rfl) T.all (by decide +kernel) (pa_cons (pe_lc (own := [("kind", 1)]) (g := gName 1) (tt := tYes) rfl scKinds.nd (pi_tup (pv 0))
        (blkOk_by (own := [("kind", 1)]) (N := ["kinds", "kind"]) (sc := defScope sKinds) (by decide +kernel))
        (fun _ _ _ _ _ => pg_name (i := 1) scKinds.nd rfl (Or.inl rfl)) (fun _ _ _ _ _ => pts_nil) (fun _ _ _ _ _ => pe_call G hr rfl gQ kQ bG .nil pass0 (pa_cons (pv 1) pa_nil))) pa_nil))
        (pe_one (pe_call L.A hr1 rfl T.gA T.kA L.bA .nil pass0 (pa_cons (pe_lc (own := [("kind", 1)]) (g := gName 1) (tt := tYes) rfl scKinds.nd (pi_tup (pv 0))
        (blkOk_by (own := [("kind", 1)]) (N := ["kinds", "kind"]) (sc := defScope sKinds) (by decide +kernel))
        (fun _ _ _ _ _ => pg_name (i := 1) scKinds.nd rfl (Or.inl rfl)) (fun _ _ _ _ _ => pts_nil) (fun _ _ _ _ _ => pe_ix (show IxR _ (rIxT K) from ix_tup) (pv 1) pe_int (fun _ _ => rfl))) pa_nil)))))), ?_⟩
    refine ⟨_, rfl, _, _, _, _, true, rfl, .ty "tuple", sqT_ty hk.at_.sq, kit_ty rfl, _, rfl, ite2 (fun z => absurd z (by decide)) (fun _ => ?_)⟩
    refine ⟨_, rfl, kk, _, rfl, .inr hk.at_.sq, rfl, _, rfl, ite2 (fun z => ?_) (fun _ => ?_)⟩
    · have z := of_decide_eq_true z
      injection z with z
      rw [List.length_map, hl] at z
      exact absurd (List.length_eq_zero_iff.mp (by omega)) ok.ne
    refine ⟨_, rfl, kk, rfl, ⟨_, hk.at_.sq⟩, fun D hD => ?_⟩
    have nD : ∀ {H1 : Hp} {b : Addr} {o : HO}, H b = some o → b ≠ D := fun e => ne_of_none e hD
    refine lc_tup (K := K) (a := kk) (xs := ps.map V.ref) (fun i H' => H' D = some (.lst ((List.replicate i true).map V.bl)) ∧ Same H H') ⟨upd_same, same_new same_rfl hD⟩ (fun i H' _ h => sqT_same h.2 hk.at_.sq) ?_ ?_
    · rintro i y H1 hi ⟨e1, s1⟩
      rw [List.getElem?_map] at hi
      obtain ⟨a, ha, rfl⟩ := Option.map_eq_some_iff.mp hi
      obtain ⟨p, hp, hq⟩ := paired_at hk.each ha
      have hm := List.mem_of_getElem? hp
      have il : i < ps.length := (List.getElem?_eq_some_iff.mp ha).1
      refine ⟨rfl, ?_⟩
      unfold tYes
      dsimp only
      rw [if_pos rfl]
      refine ⟨_, rfl, a, p.1, p.2, rfl, sqT_same s1 hq, ok.ww p hm, (ok.num p hm).1, (ok.num p hm).2, fun H2 s2 => ⟨_, s2 _ _ e1, ?_, ?_, ?_⟩⟩
      · rw [List.length_map, List.length_replicate, sizeLine_eq]
        omega
      · rw [upd_same, rep_snoc]
      · exact fun b o e => (upd_ne (ne_of_none e hD)).trans (s2 _ _ (s1 _ _ e))
    · rintro H1 ⟨e1, s1⟩
      refine ⟨D, _, rfl, SqL.of e1, ?_⟩
      rw [rep_all]
      refine ⟨_, rfl, ite2 (fun _ => ?_) (fun z => absurd rfl z)⟩
      refine ⟨_, rfl, kk, rfl, ⟨_, sqT_same s1 hk.at_.sq⟩, fun E1 hE => ?_⟩
      refine lc_tup (K := K) (a := kk) (xs := ps.map V.ref) (fun i H' => H' = upd H1 E1 (.lst (((ks.take i).map (·.1)).map V.str))) rfl (fun i H' _ h => by rw [h]; exact sqT_same (same_new s1 hE) hk.at_.sq) ?_ ?_
      · rintro i y H2 hi rfl
        rw [List.getElem?_map] at hi
        obtain ⟨a, ha, rfl⟩ := Option.map_eq_some_iff.mp hi
        obtain ⟨p, hp, hq⟩ := paired_at hk.each ha
        have il : i < ks.length := (List.getElem?_eq_some_iff.mp hp).1
        refine ⟨rfl, ?_⟩
        unfold tYes
        dsimp only
        rw [if_pos rfl]
        refine ⟨_, rfl, a, _, _, _, rfl, rfl, sqT_same (same_new s1 hE) hq, rfl, _, upd_same, ?_, ?_⟩
        · rw [List.length_map, List.length_map, List.length_take, sizeLine_eq]
          omega
        · rw [upd_upd, List.take_add_one, hp, List.map_append, List.map_append]
          rfl
      · rintro H2 rfl
        rw [List.length_map, hl, List.take_of_length_le (Nat.le_refl _)]
        exact ⟨E1, ks.map (·.1), rfl, upd_same, by rw [List.length_map]; omega, ok.asc, fun H3 s3 => k H3 (same_tr (same_new s1 hE) s3)⟩
end
end K06

set_option Elab.async false
set_option linter.all false
set_option maxRecDepth 100000
set_option maxHeartbeats 4000000
/-! The parts of a book are looked at: needs and openings. -/
namespace K06
open PySem PySem.Spec PyProof.Rows L2 Mine
abbrev sOpens : Stmt := top 21
abbrev sOpenQ : Stmt := top 22
abbrev sNeedQ : Stmt := top 23
abbrev sOne : Stmt := top 24
inductive Nd where
  | part (j : Int)
  | around (c : Str) (j : Int)
  | inside (j : Int) (c : Str)
def ndV : Nd → List V
  | .part j => [.str (PySem.Str.ofString "part"), .int j]
  | .around c j => [.str (PySem.Str.ofString "around"), .str c, .int j]
  | .inside j c => [.str (PySem.Str.ofString "inside"), .int j, .str c]
def ndD : Nd → PyData
  | .part j => .tuple [.str (PySem.Str.ofString "part"), .int j]
  | .around c j => .tuple [.str (PySem.Str.ofString "around"), .str c, .int j]
  | .inside j c => .tuple [.str (PySem.Str.ofString "inside"), .int j, .str c]
def NdOk (m : Int) (ks : List (Str × Int)) : Nd → Prop
  | .part j => 0 ≤ j ∧ j < m
  | .around c j => (c, (1 : Int)) ∈ ks ∧ 0 ≤ j ∧ j < m
  | .inside j c => (c, (1 : Int)) ∈ ks ∧ 0 ≤ j ∧ j < m
structure Opn where
  w : Str
  k : Str
  g : Int
  nn : List Nd
def OpnAt (K : PySem.W.Frag) (H : Hp) (a : Addr) (o : Opn) : Prop := ∃ (b : Addr) (as : List Addr), SqT K H a [.str o.w, .str o.k, .int o.g, .ref b] ∧ SqT K H b (as.map V.ref) ∧ Paired (fun x n => SqT K H x (ndV n)) as o.nn
theorem OpnAt.same {K : PySem.W.Frag} {H H' : Hp} {a : Addr} {o : Opn} (k : Same H H') (h : OpnAt K H a o) : OpnAt K H' a o :=
  let ⟨b, as, h1, h2, h3⟩ := h
  ⟨b, as, sqT_same k h1, sqT_same k h2, paired_mono (fun _ _ => sqT_same k) h3⟩
structure OpnsAt (K : PySem.W.Frag) (H : Hp) (oo : Addr) (as : List Addr) (os : List Opn) : Prop where
  at_ : SqT K H oo (as.map V.ref)
  each : Paired (OpnAt K H) as os
theorem OpnsAt.same {K : PySem.W.Frag} {H H' : Hp} {oo : Addr} {as : List Addr} {os : List Opn} (h : OpnsAt K H oo as os) (k : Same H H') : OpnsAt K H' oo as os :=
  ⟨sqT_same k h.at_, paired_mono (fun _ _ => OpnAt.same k) h.each⟩
structure OpnOk (ks : List (Str × Int)) (o : Opn) : Prop where
  ww : o.w ∈ WW
  out : o.w ∉ ks.map (·.1)
  ex : ∃ m : Int, (o.k, m) ∈ ks ∧ 0 ≤ o.g ∧ o.g < m ∧ o.nn.length ≤ 2 ∧ ∀ n ∈ o.nn, NdOk m ks n
structure OsOk (ks : List (Str × Int)) (os : List Opn) : Prop where
  each : ∀ o ∈ os, OpnOk ks o
  asc : Asc (os.map (·.w))
  len : os.length ≤ 20
section
variable {P : Program} {w : World} {K : PySem.W.Frag} {mg : Str → Option Value} {base : Heap}
theorem scOne : FnScope ["counts", "kind"] ["counts", "kind"] (defScope sOne) := ⟨rfl, rfl, rfl, by decide +kernel, rfl, by decide +kernel, by decide +kernel⟩
def spOne : Sp := fun vs H Q _ => ∃ (cd : Addr) (c : Str) (ks : List (Str × Int)), vs = [.ref cd, .str c] ∧ Cnt H cd ks ∧ (c, (1 : Int)) ∈ ks ∧ c ∈ WW ∧ ∀ H', Same H H' → Q (.bl true) H'
theorem ok_one {f fW fI fA : Addr} {fd dW dI dA : FuncData} (F : Fun K "_has_one_part" "_has_one_part" sOne f fd) (T : TxtB K mg fW fI fA) (L : Lows P w K mg base fW fI fA dW dI dA) : FnOk P w K mg base CX0 2 f fd ["counts", "kind"] spOne := by
  refine F.ok scOne (fun vs H Q E h => ?_) (fun cdv A outer s H vs Q E hr h => ?_)
  · obtain ⟨_, _, _, rfl, _⟩ := h
    rfl
  · obtain ⟨cd, c, ks, rfl, hc, hm, hw, k⟩ := h
    have hu := hu_of hr
    refine ⟨_, pss_one (ps_ret (pe_and (pe_call L.W hr rfl T.gW T.kW L.bW .nil pass0 (pa_cons (pv 1) pa_nil))
      (pe_one (pe_cmpR op_eq (pe_dget2 hu (pv 0) (pv 1) pe_int ⟨rfl, by rfl, by rfl, rfl⟩) pe_int (nomark _))))), ?_⟩
    refine ⟨_, rfl, c, hw, rfl, fun H1 k1 => ⟨_, rfl, ite2 (fun _ => ?_) (fun z => absurd rfl z)⟩⟩
    obtain ⟨kvs, e, yes, no⟩ := hc.same k1
    exact ⟨_, rfl, cd, rfl, .inl ⟨kvs, .inl e⟩, _, rfl, some (.int 1), .inl ⟨kvs, .inr c, .inl e, rfl, (yes _ hm).symm⟩, rfl, k _ k1⟩
theorem scNeedQ : FnScope ["counts", "last", "need"] ["counts", "last", "need"] (defScope sNeedQ) := ⟨rfl, rfl, rfl, by decide +kernel, rfl, by decide +kernel, by decide +kernel⟩
def spNeedQ (K : PySem.W.Frag) : Sp := fun vs H Q _ => ∃ (cd a : Addr) (m : Int) (n : Nd) (ks : List (Str × Int)), vs = [.ref cd, .int (m - 1), .ref a] ∧ Cnt H cd ks ∧ (∀ p ∈ ks, p.1 ∈ WW) ∧ SqT K H a (ndV n) ∧ NdOk m ks n ∧ ∀ H', Same H H' → Q (.bl true) H'
theorem ok_needQ {f fO fW fI fA : Addr} {fd dO dW dI dA : FuncData} (F : Fun K "_is_need" "_is_need" sNeedQ f fd) (T : TxtB K mg fW fI fA) (L : Lows P w K mg base fW fI fA dW dI dA)
    (G : FnOk P w K mg base CX0 2 fO dO ["counts", "kind"] spOne) (bG : Binds K dO ["counts", "kind"] []) (gO : mg "_has_one_part" = some (.ref fO)) (kO : PySem.W.keepIn K (.ref fO) = true) : FnOk P w K mg base CX0 3 f fd ["counts", "last", "need"] (spNeedQ K) := by
  refine F.ok scNeedQ (fun vs H Q E h => ?_) (fun cdv A outer s H vs Q E hr h => ?_)
  · obtain ⟨_, _, _, _, _, rfl, _⟩ := h
    rfl
  · obtain ⟨cd, a, m, n, ks, rfl, hc, hw, ha, hn, k⟩ := h
    have hr1 : Room 1 _ := hr.mono (by decide)
    refine ⟨_, pss_cons (ps_if (PW.pt (pw_or (pt_not (pt_val (pe_callB call_isi (by rfl) T.isi (by decide +kernel) (pa_cons (pv 2) (pa_cons (pe_bltn (v := .ty "tuple") rfl T.tuple (by decide +kernel) rfl) pa_nil)))))
        (pw_or1 (pt_cmpR op_notIn_seq (pe_callB call_len_seq (by rfl) T.len PySem.boot_len (pa_cons (pv 2) pa_nil)) (pe_tup (pa_cons pe_int (pa_cons pe_int pa_nil))) (by with_unfolding_all rfl))))) (pss_one (ps_ret pe_bl)) pss_nil)
      (pss_cons (ps_if (pt_cmpR op_eq (pe_callB call_len_seq (by rfl) T.len PySem.boot_len (pa_cons (pv 2) pa_nil)) pe_int (nomark _))
        (pss_one (ps_ret (pe_and (pe_cmpR op_eq (pe_ix ix_tup (pv 2) pe_int (fun _ _ => rfl)) pe_str (nomark _)) (pe_one (pe_call L.I hr1 rfl T.gI T.kI L.bI .nil pass0 (pa_cons (pe_ix ix_tup (pv 2) pe_int (fun _ _ => rfl)) (pa_cons pe_int (pa_cons (pv 1) pa_nil)))))))) pss_nil)
      (pss_cons (ps_if (pt_cmpR op_eq (pe_ix ix_tup (pv 2) pe_int (fun _ _ => rfl)) pe_str (nomark _))
        (pss_one (ps_ret (pe_and (pe_call G hr rfl gO kO bG .nil pass0 (pa_cons (pv 0) (pa_cons (pe_ix ix_tup (pv 2) pe_int (fun _ _ => rfl)) pa_nil))) (pe_one (pe_call L.I hr1 rfl T.gI T.kI L.bI .nil pass0 (pa_cons (pe_ix ix_tup (pv 2) pe_int (fun _ _ => rfl)) (pa_cons pe_int (pa_cons (pv 1) pa_nil)))))))) pss_nil)
      (pss_one (ps_ret (pe_and (pe_cmpR op_eq (pe_ix ix_tup (pv 2) pe_int (fun _ _ => rfl)) pe_str (nomark _)) (pe_and (pe_call L.I hr1 rfl T.gI T.kI L.bI .nil pass0 (pa_cons (pe_ix ix_tup (pv 2) pe_int (fun _ _ => rfl)) (pa_cons pe_int (pa_cons (pv 1) pa_nil))))
        (pe_one (pe_call G hr rfl gO kO bG .nil pass0 (pa_cons (pv 0) (pa_cons (pe_ix ix_tup (pv 2) pe_int (fun _ _ => rfl)) pa_nil)))))))))), ?_⟩
    refine ⟨_, rfl, _, _, _, _, true, rfl, .ty "tuple", sqT_ty ha, kit_ty rfl, _, rfl, ite2 (fun z => absurd z (by decide)) (fun _ => ?_)⟩
    have k1 : ∀ {p : Addr}, H p = none → Same H (upd H p (.tup [.int 2, .int 3])) := fun hp => same_new same_rfl hp
    cases n with
    | part j =>
      obtain ⟨j0, j1⟩ := hn
      refine ⟨_, rfl, a, _, rfl, .inr ha, (by show 2 ≤ sizeLine; rw [sizeLine_eq]; decide), fun p hp => ⟨p, _, rfl, .inr (SqT.of upd_same), rfl, rfl, _, rfl, ite2 (fun z => absurd z (by show ¬ (!inV (.int ((2 : Nat) : Int)) [.int 2, .int 3]) = true; decide)) (fun _ => ?_)⟩⟩
      have ha1 := sqT_same (k1 hp) ha
      refine ⟨_, rfl, a, _, rfl, .inr ha1, rfl, _, rfl, ite2 (fun _ => ?_) (fun z => absurd (by show decide (V.int ((2 : Nat) : Int) = V.int 2) = true; decide) z)⟩
      refine ⟨_, rfl, a, _, _, _, rfl, rfl, ha1, rfl, rfl, _, rfl, ite2 (fun _ => ?_) (fun z => absurd (by decide) z)⟩
      exact ⟨_, rfl, a, _, _, _, rfl, rfl, ha1, rfl, _, rfl, j, 0, m - 1, rfl, j0, by omega, k _ (k1 hp)⟩
    | around c j =>
      obtain ⟨c1, j0, j1⟩ := hn
      refine ⟨_, rfl, a, _, rfl, .inr ha, (by show 2 ≤ sizeLine; rw [sizeLine_eq]; decide), fun p hp => ⟨p, _, rfl, .inr (SqT.of upd_same), rfl, rfl, _, rfl, ite2 (fun z => absurd z (by show ¬ (!inV (.int ((3 : Nat) : Int)) [.int 2, .int 3]) = true; decide)) (fun _ => ?_)⟩⟩
      have ha1 := sqT_same (k1 hp) ha
      refine ⟨_, rfl, a, _, rfl, .inr ha1, rfl, _, rfl, ite2 (fun z => absurd z (by show ¬ decide (V.int ((3 : Nat) : Int) = V.int 2) = true; decide)) (fun _ => ?_)⟩
      refine ⟨_, rfl, a, _, _, _, rfl, rfl, ha1, rfl, rfl, _, rfl, ite2 (fun _ => ?_) (fun z => absurd (by decide) z)⟩
      refine ⟨_, rfl, _, rfl, a, _, _, _, rfl, rfl, ha1, rfl, cd, c, ks, rfl, hc.same (k1 hp), c1, hw _ c1, fun H2 k2 => ⟨_, rfl, ite2 (fun _ => ?_) (fun z => absurd rfl z)⟩⟩
      exact ⟨_, rfl, a, _, _, _, rfl, rfl, sqT_same k2 ha1, rfl, _, rfl, j, 0, m - 1, rfl, j0, by omega, k _ (same_tr (k1 hp) k2)⟩
    | inside j c =>
      obtain ⟨c1, j0, j1⟩ := hn
      refine ⟨_, rfl, a, _, rfl, .inr ha, (by show 2 ≤ sizeLine; rw [sizeLine_eq]; decide), fun p hp => ⟨p, _, rfl, .inr (SqT.of upd_same), rfl, rfl, _, rfl, ite2 (fun z => absurd z (by show ¬ (!inV (.int ((3 : Nat) : Int)) [.int 2, .int 3]) = true; decide)) (fun _ => ?_)⟩⟩
      have ha1 := sqT_same (k1 hp) ha
      refine ⟨_, rfl, a, _, rfl, .inr ha1, rfl, _, rfl, ite2 (fun z => absurd z (by show ¬ decide (V.int ((3 : Nat) : Int) = V.int 2) = true; decide)) (fun _ => ?_)⟩
      refine ⟨_, rfl, a, _, _, _, rfl, rfl, ha1, rfl, rfl, _, rfl, ite2 (fun z => absurd z (by decide)) (fun _ => ?_)⟩
      refine ⟨_, rfl, a, _, _, _, rfl, rfl, ha1, rfl, rfl, _, rfl, ite2 (fun _ => ?_) (fun z => absurd (by decide) z)⟩
      refine ⟨_, rfl, a, _, _, _, rfl, rfl, ha1, rfl, _, rfl, j, 0, m - 1, rfl, j0, by omega, _, rfl, ite2 (fun _ => ?_) (fun z => absurd rfl z)⟩
      exact ⟨_, rfl, _, rfl, a, _, _, _, rfl, rfl, ha1, rfl, cd, c, ks, rfl, hc.same (k1 hp), c1, hw _ c1, fun H2 k2 => k _ (same_tr (k1 hp) k2)⟩
theorem scOpenQ : FnScope ["counts", "opening", "word", "kind", "given", "needs", "last", "need"] ["counts", "opening"] (defScope sOpenQ) := ⟨rfl, rfl, rfl, by decide +kernel, rfl, by decide +kernel, by decide +kernel⟩
def spOpenQ (K : PySem.W.Frag) : Sp := fun vs H Q _ => ∃ (cd a : Addr) (o : Opn) (ks : List (Str × Int)), vs = [.ref cd, .ref a] ∧ Cnt H cd ks ∧ (∀ p ∈ ks, p.1 ∈ WW) ∧ OpnAt K H a o ∧ OpnOk ks o ∧ ∀ H', Same H H' → Q (.bl true) H'
theorem ok_openQ {f fN fW fI fA : Addr} {fd dN dW dI dA : FuncData} (F : Fun K "_is_opening" "_is_opening" sOpenQ f fd) (T : TxtB K mg fW fI fA) (L : Lows P w K mg base fW fI fA dW dI dA)
    (G : FnOk P w K mg base CX0 3 fN dN ["counts", "last", "need"] (spNeedQ K)) (bG : Binds K dN ["counts", "last", "need"] []) (gN : mg "_is_need" = some (.ref fN)) (kN : PySem.W.keepIn K (.ref fN) = true) : FnOk P w K mg base CX0 4 f fd ["counts", "opening"] (spOpenQ K) := by
  refine F.ok scOpenQ (fun vs H Q E h => ?_) (fun cdv A outer s H vs Q E hr h => ?_)
  · obtain ⟨_, _, _, _, rfl, _⟩ := h
    rfl
  · obtain ⟨cd, a, o, ks, rfl, hc, hw, hoA, ok, k⟩ := h
    have hu := hu_of hr
    have hr1 : Room 1 _ := hr.mono (by decide)
    obtain ⟨b, as, ha, hb, hp⟩ := id hoA
    obtain ⟨m, hm, g0, g1, nl, hn⟩ := ok.ex
    refine ⟨_, pss_cons (ps_if (PW.pt (pw_or (pt_not (pt_val (pe_callB call_isi (by rfl) T.isi (by decide +kernel) (pa_cons (pv 1) (pa_cons (pe_bltn (v := .ty "tuple") rfl T.tuple (by decide +kernel) rfl) pa_nil)))))
        (pw_or1 (pt_cmpR op_ne (pe_callB call_len_seq (by rfl) T.len PySem.boot_len (pa_cons (pv 1) pa_nil)) pe_int (nomark _))))) (pss_one (ps_ret pe_bl)) pss_nil)
      (pss_cons (ps_asg (pv 1) (pg_tup rfl (pgs_cons (pg_name (i := 2) scOpenQ.nd rfl (.inl rfl)) (pgs_cons (pg_name (i := 3) scOpenQ.nd rfl (.inl rfl)) (pgs_cons (pg_name (i := 4) scOpenQ.nd rfl (.inl rfl)) (pgs_cons (pg_name (i := 5) scOpenQ.nd rfl (.inl rfl)) pgs_nil))))))
      (pss_cons (ps_if (PW.pt (pw_or (pt_not (pt_val (pe_call L.W hr1 rfl T.gW T.kW L.bW .nil pass0 (pa_cons (pv 2) pa_nil)))) (pw_or (pt_cmp (pc_din hu (pv 2) (pv 0)) (by with_unfolding_all rfl))
        (pw_or (pt_not (pt_val (pe_call L.W hr1 rfl T.gW T.kW L.bW .nil pass0 (pa_cons (pv 3) pa_nil)))) (pw_or1 (pt_cmp (pc_dnotin hu (pv 3) (pv 0)) (by with_unfolding_all rfl))))))) (pss_one (ps_ret pe_bl)) pss_nil)
      (pss_cons (ps_set (i := 6) scOpenQ.nd rfl (.inr rfl) (pe_op op_sub (pe_dget hu (pv 0) (pv 3) (fun _ _ => rfl)) pe_int))
      (pss_cons (ps_if (PW.pt (pw_or (pt_not (pt_val (pe_call L.I hr1 rfl T.gI T.kI L.bI .nil pass0 (pa_cons (pv 4) (pa_cons pe_int (pa_cons (pv 6) pa_nil))))))
        (pw_or (pt_not (pt_val (pe_callB call_isi (by rfl) T.isi (by decide +kernel) (pa_cons (pv 5) (pa_cons (pe_bltn (v := .ty "tuple") rfl T.tuple (by decide +kernel) rfl) pa_nil)))))
        (pw_or1 (pt_cmpR op_gt (pe_callB call_len_seq (by rfl) T.len PySem.boot_len (pa_cons (pv 5) pa_nil)) (C8.pe_gc (v := .int 2) rfl T.mostN) (nomark _)))))) (pss_one (ps_ret pe_bl)) pss_nil)
      (pss_one (ps_ret (pe_callB (cr_all rfl) (by rfl) T.all (by decide +kernel) (pa_cons (pe_lc (own := [("need", 7)]) (g := gName 7) (tt := tYes) rfl scOpenQ.nd (pi_tup (pv 5))
        (blkOk_by (own := [("need", 7)]) (N := ["counts", "opening", "word", "kind", "given", "needs", "last", "need"]) (sc := defScope sOpenQ) (by decide +kernel))
        (fun _ _ _ _ _ => pg_name (i := 7) scOpenQ.nd rfl (Or.inl rfl)) (fun _ _ _ _ _ => pts_nil) (fun _ _ _ _ _ => pe_call G hr rfl gN kN bG .nil pass0 (pa_cons (pv 0) (pa_cons (pv 6) (pa_cons (pv 7) pa_nil))))) pa_nil)))))))), ?_⟩
    refine ⟨_, rfl, _, _, _, _, true, rfl, .ty "tuple", sqT_ty ha, kit_ty rfl, _, rfl, ite2 (fun z => absurd z (by decide)) (fun _ => ?_)⟩
    refine ⟨_, rfl, a, _, rfl, .inr ha, rfl, _, rfl, ite2 (fun z => absurd z (by show ¬ (!decide (V.int ((4 : Nat) : Int) = V.int 4)) = true; decide)) (fun _ => ?_)⟩
    refine ⟨_, rfl, a, _, rfl, ha, rfl, _, _, rfl, _, _, rfl, _, _, rfl, _, _, rfl, rfl, ?_⟩
    refine ⟨_, rfl, o.w, ok.ww, rfl, fun H1 k1 => ⟨_, rfl, ite2 (fun z => absurd z (by decide)) (fun _ => ?_)⟩⟩
    obtain ⟨kvs, e1, yes, no⟩ := hc.same k1
    refine ⟨_, rfl, _, rfl, cd, none, rfl, .inl ⟨kvs, .inr o.w, .inl e1, rfl, (no _ ok.out).symm⟩, _, rfl, ite2 (fun z => absurd z (by decide)) (fun _ => ?_)⟩
    refine ⟨_, rfl, o.k, hw _ hm, rfl, fun H2 k2 => ⟨_, rfl, ite2 (fun z => absurd z (by decide)) (fun _ => ?_)⟩⟩
    have e2 := k2 _ _ e1
    have k02 := same_tr k1 k2
    have hkv : DGet H2 cd (.str o.k) (some (.int m)) := .inl ⟨kvs, .inr o.k, .inl e2, rfl, (yes _ hm).symm⟩
    refine ⟨_, rfl, _, rfl, cd, _, rfl, hkv, _, rfl, ite2 (fun z => absurd z (by show ¬ (!true) = true; decide)) (fun _ => ?_)⟩
    refine ⟨_, rfl, _, rfl, cd, _, rfl, hkv, _, _, rfl, rfl, ?_⟩
    have hb2 := sqT_same k02 hb
    have hpl := hp.length
    refine ⟨_, rfl, _, rfl, o.g, 0, m - 1, rfl, g0, by omega, _, rfl, ite2 (fun z => absurd z (by decide)) (fun _ => ?_)⟩
    refine ⟨_, rfl, _, _, _, _, true, rfl, .ty "tuple", sqT_ty hb2, kit_ty rfl, _, rfl, ite2 (fun z => absurd z (by decide)) (fun _ => ?_)⟩
    refine ⟨_, rfl, b, _, rfl, .inr hb2, _, _, rfl, rfl, _, rfl, ite2 (fun z => ?_) (fun _ => ?_)⟩
    · have z := of_decide_eq_true z
      rw [List.length_map] at z
      omega
    refine ⟨_, rfl, b, rfl, ⟨_, hb2⟩, fun D hD => ?_⟩
    refine lc_tup (K := K) (a := b) (xs := as.map V.ref) (fun i H' => H' D = some (.lst ((List.replicate i true).map V.bl)) ∧ Same H2 H') ⟨upd_same, same_new same_rfl hD⟩ (fun i H' _ h => sqT_same h.2 hb2) ?_ ?_
    · rintro i y H3 hi ⟨e3, s3⟩
      rw [List.getElem?_map] at hi
      obtain ⟨x, hx, rfl⟩ := Option.map_eq_some_iff.mp hi
      obtain ⟨n, hnn, hq⟩ := paired_at hp hx
      have il : i < as.length := (List.getElem?_eq_some_iff.mp hx).1
      refine ⟨rfl, ?_⟩
      unfold tYes
      dsimp only
      rw [if_pos rfl]
      refine ⟨_, rfl, _, rfl, _, rfl, cd, x, m, n, ks, rfl, hc.same (same_tr k02 s3), hw, sqT_same (same_tr k02 s3) hq, hn n (List.mem_of_getElem? hnn), fun H4 s4 => ⟨_, s4 _ _ e3, ?_, ?_, ?_⟩⟩
      · rw [List.length_map, List.length_replicate, sizeLine_eq]
        omega
      · rw [upd_same, rep_snoc]
      · exact fun b o e => (upd_ne (ne_of_none e hD)).trans (s4 _ _ (s3 _ _ e))
    · rintro H3 ⟨e3, s3⟩
      refine ⟨D, _, rfl, SqL.of e3, ?_⟩
      rw [rep_all]
      exact k _ (same_tr k02 s3)
theorem scOpens : FnScope ["counts", "openings", "right", "opening"] ["counts", "openings"] (defScope sOpens) := ⟨rfl, rfl, rfl, by decide +kernel, rfl, by decide +kernel, by decide +kernel⟩
def spOpens (K : PySem.W.Frag) : Sp := fun vs H Q _ => ∃ (cd oo : Addr) (as : List Addr) (os : List Opn) (ks : List (Str × Int)), vs = [.ref cd, .ref oo] ∧ Cnt H cd ks ∧ (∀ p ∈ ks, p.1 ∈ WW) ∧ OpnsAt K H oo as os ∧ OsOk ks os ∧ ∀ H', Same H H' → Q (.bl true) H'
theorem ok_opens {f fQ fW fI fA : Addr} {fd dQ dW dI dA : FuncData} (F : Fun K "_are_openings" "_are_openings" sOpens f fd) (T : TxtB K mg fW fI fA) (L : Lows P w K mg base fW fI fA dW dI dA)
    (G : FnOk P w K mg base CX0 4 fQ dQ ["counts", "opening"] (spOpenQ K)) (bG : Binds K dQ ["counts", "opening"] []) (gQ : mg "_is_opening" = some (.ref fQ)) (kQ : PySem.W.keepIn K (.ref fQ) = true) : FnOk P w K mg base CX0 5 f fd ["counts", "openings"] (spOpens K) := by
  refine F.ok scOpens (fun vs H Q E h => ?_) (fun cdv A outer s H vs Q E hr h => ?_)
  · obtain ⟨_, _, _, _, _, rfl, _⟩ := h
    rfl
  · obtain ⟨cd, oo, as, os, ks, rfl, hc, hw, hA, ok, k⟩ := h
    have hr1 : Room 1 _ := hr.mono (by decide)
    have hl := hA.each.length
    have hlen := ok.len
    refine ⟨_, pss_cons (ps_if (pt_not (pt_val (pe_callB call_isi (by rfl) T.isi (by decide +kernel) (pa_cons (pv 1) (pa_cons (pe_bltn (v := .ty "tuple") rfl T.tuple (by decide +kernel) rfl) pa_nil))))) (pss_one (ps_ret pe_bl)) pss_nil)
      (pss_cons (ps_set (i := 2) scOpens.nd rfl (.inl rfl) (pe_callB (cr_all rfl) (by rfl) T.all (by decide +kernel) (pa_cons (pe_lc (own := [("opening", 3)]) (g := gName 3) (tt := tYes) rfl scOpens.nd (pi_tup (pv 1))
        (blkOk_by (own := [("opening", 3)]) (N := ["counts", "openings", "right", "opening"]) (sc := defScope sOpens) (by decide +kernel))
        (fun _ _ _ _ _ => pg_name (i := 3) scOpens.nd rfl (Or.inl rfl)) (fun _ _ _ _ _ => pts_nil) (fun _ _ _ _ _ => pe_call G hr rfl gQ kQ bG .nil pass0 (pa_cons (pv 0) (pa_cons (pv 3) pa_nil)))) pa_nil)))
      (pss_one (ps_ret (pe_and (pv 2) (pe_one (pe_call L.A hr1 rfl T.gA T.kA L.bA .nil pass0 (pa_cons (pe_lc (own := [("opening", 3)]) (g := gName 3) (tt := tYes) rfl scOpens.nd (pi_tup (pv 1))
        (blkOk_by (own := [("opening", 3)]) (N := ["counts", "openings", "right", "opening"]) (sc := defScope sOpens) (by decide +kernel))
        (fun _ _ _ _ _ => pg_name (i := 3) scOpens.nd rfl (Or.inl rfl)) (fun _ _ _ _ _ => pts_nil) (fun _ _ _ _ _ => pe_ix (show IxR _ (rIxT K) from ix_tup) (pv 3) pe_int (fun _ _ => rfl))) pa_nil))))))), ?_⟩
    refine ⟨_, rfl, _, _, _, _, true, rfl, .ty "tuple", sqT_ty hA.at_, kit_ty rfl, _, rfl, ite2 (fun z => absurd z (by decide)) (fun _ => ?_)⟩
    refine ⟨_, rfl, oo, rfl, ⟨_, hA.at_⟩, fun D hD => ?_⟩
    refine lc_tup (K := K) (a := oo) (xs := as.map V.ref) (fun i H' => H' D = some (.lst ((List.replicate i true).map V.bl)) ∧ Same H H') ⟨upd_same, same_new same_rfl hD⟩ (fun i H' _ h => sqT_same h.2 hA.at_) ?_ ?_
    · rintro i y H1 hi ⟨e1, s1⟩
      rw [List.getElem?_map] at hi
      obtain ⟨a, ha, rfl⟩ := Option.map_eq_some_iff.mp hi
      obtain ⟨o, ho, hq⟩ := paired_at hA.each ha
      have il : i < as.length := (List.getElem?_eq_some_iff.mp ha).1
      refine ⟨rfl, ?_⟩
      unfold tYes
      dsimp only
      rw [if_pos rfl]
      refine ⟨_, rfl, _, rfl, cd, a, o, ks, rfl, hc.same s1, hw, OpnAt.same s1 hq, ok.each o (List.mem_of_getElem? ho), fun H2 s2 => ⟨_, s2 _ _ e1, ?_, ?_, ?_⟩⟩
      · rw [List.length_map, List.length_replicate, sizeLine_eq]
        omega
      · rw [upd_same, rep_snoc]
      · exact fun b o e => (upd_ne (ne_of_none e hD)).trans (s2 _ _ (s1 _ _ e))
    · rintro H1 ⟨e1, s1⟩
      refine ⟨D, _, rfl, SqL.of e1, ?_⟩
      rw [rep_all]
      refine ⟨_, rfl, _, rfl, ite2 (fun _ => ?_) (fun z => absurd rfl z)⟩
      have hA1 := hA.same s1
      refine ⟨_, rfl, oo, rfl, ⟨_, hA1.at_⟩, fun E1 hE => ?_⟩
      refine lc_tup (K := K) (a := oo) (xs := as.map V.ref) (fun i H' => H' = upd H1 E1 (.lst (((os.take i).map (·.w)).map V.str))) rfl (fun i H' _ h => by rw [h]; exact sqT_same (same_new same_rfl hE) hA1.at_) ?_ ?_
      · rintro i y H2 hi rfl
        rw [List.getElem?_map] at hi
        obtain ⟨a, ha, rfl⟩ := Option.map_eq_some_iff.mp hi
        obtain ⟨o, ho, b, bs, hq, _⟩ := paired_at hA1.each ha
        have il : i < os.length := (List.getElem?_eq_some_iff.mp ho).1
        refine ⟨rfl, ?_⟩
        unfold tYes
        dsimp only
        rw [if_pos rfl]
        refine ⟨_, rfl, a, _, _, _, rfl, rfl, sqT_same (same_new same_rfl hE) hq, rfl, _, upd_same, ?_, ?_⟩
        · rw [List.length_map, List.length_map, List.length_take, sizeLine_eq]
          omega
        · rw [upd_upd, List.take_add_one, ho, List.map_append, List.map_append]
          rfl
      · rintro H2 rfl
        rw [List.length_map, hl, List.take_of_length_le (Nat.le_refl _)]
        exact ⟨E1, os.map (·.w), rfl, upd_same, by rw [List.length_map]; omega, ok.asc, fun H3 s3 => k H3 (same_tr (same_new s1 hE) s3)⟩
end
end K06

set_option Elab.async false
set_option linter.all false
set_option maxRecDepth 100000
set_option maxHeartbeats 4000000
/-! Book(kinds, openings). -/
namespace K06
open PySem PySem.Spec PyProof.Rows L2 Mine
abbrev sInit : Stmt := inClass (top 16) 0
abbrev fsB (kk oo : Addr) : List (Str × V) := [(PySem.Str.ofString "kinds", .ref kk), (PySem.Str.ofString "openings", .ref oo)]
def spInit (K : PySem.W.Frag) (C : Addr) : Sp := fun vs H Q _ => ∃ (x dx kk oo : Addr) (ps as : List Addr) (ks : List (Str × Int)) (os : List Opn), vs = [.ref x, .ref kk, .ref oo] ∧ H x = some (.ins C dx []) ∧ KindsAt K H kk ps ks ∧ KsOk ks ∧ OpnsAt K H oo as os ∧ OsOk ks os ∧
  ∀ H', (∀ b o, b ≠ x → H b = some o → H' b = some o) → H' x = some (.ins C dx (fsB kk oo)) → Q .non H'
structure TxtI (K : PySem.W.Frag) (mg : Str → Option Value) (C fKs fOs : Addr) : Prop where
  cl : Cls K C
  nK : NoAttr K C "kinds"
  nO : NoAttr K C "openings"
  gKs : mg "_are_kinds" = some (.ref fKs)
  kKs : PySem.W.keepIn K (.ref fKs) = true
  gOs : mg "_are_openings" = some (.ref fOs)
  kOs : PySem.W.keepIn K (.ref fOs) = true
theorem ps_dead {X : Cx} {st : Stmt} : PS X st (fun _ _ _ => False) := ⟨fun _ _ _ _ _ _ h => h.elim⟩
section
variable {P : Program} {w : World} {K : PySem.W.Frag} {mg : Str → Option Value} {base : Heap}
theorem scInit : FnScope ["self", "kinds", "openings"] ["self", "kinds", "openings"] (defScope sInit) := ⟨rfl, rfl, rfl, by decide +kernel, rfl, by decide +kernel, by decide +kernel⟩
theorem ok_init {f C fKs fOs fW fI fA : Addr} {fd dKs dOs : FuncData} (F : Fun K "__init__" "Book.__init__" sInit f fd) (T : TxtI K mg C fKs fOs) (TW : TxtW mg) (GK : FnOk P w K mg base CX0 3 fKs dKs ["kinds"] (spKinds K)) (bK : Binds K dKs ["kinds"] [])
    (GO : FnOk P w K mg base CX0 5 fOs dOs ["counts", "openings"] (spOpens K)) (bO : Binds K dOs ["counts", "openings"] []) : FnOk P w K mg base CX0 6 f fd ["self", "kinds", "openings"] (spInit K C) := by
  refine F.ok scInit (fun vs H Q E h => ?_) (fun cdv A outer s H vs Q E hr h => ?_)
  · obtain ⟨_, _, _, _, _, _, _, _, rfl, _⟩ := h
    rfl
  · obtain ⟨x, dx, kk, oo, ps, as, ks, os, rfl, hx, hk, kok, ho, ook, k⟩ := h
    have hr3 : Room 3 _ := hr.mono (by decide)
    refine ⟨_, pss_cons (ps_if (pt_not (pt_val (pe_call GK hr3 rfl T.gKs T.kKs bK .nil pass0 (pa_cons (pv 1) pa_nil)))) (pss_one ps_dead) pss_nil)
      (pss_cons (ps_if (pt_not (pt_val (pe_call GO hr rfl T.gOs T.kOs bO .nil pass0 (pa_cons (pe_callTy (call_dictPT rfl) (by rfl) TW.dict (by decide +kernel) (pa_cons (pv 1) pa_nil)) (pa_cons (pv 2) pa_nil))))) (pss_one ps_dead) pss_nil)
      (pss_cons (ps_fld (pv 0) (pv 1) rfl) (pss_one (ps_fld (pv 0) (pv 2) rfl)))), ?_⟩
    refine ⟨_, rfl, kk, ps, ks, rfl, hk, kok, fun H1 k1 => ⟨_, rfl, ite2 (fun z => absurd z (by decide)) (fun _ => ?_)⟩⟩
    have hk1 := hk.same k1
    refine ⟨_, rfl, kk, ps, _, rfl, hk1.at_, paired_kv hk1.each, fun p hp => ⟨_, rfl, p, oo, as, os, ks, rfl, cnt_new kok.nd, kok.ww, ho.same (same_new k1 hp), ook, fun H2 k2 => ⟨_, rfl, ite2 (fun z => absurd z (by decide)) (fun _ => ?_)⟩⟩⟩
    have k02 := same_tr (same_new k1 hp) k2
    have hx2 := k02 _ _ hx
    refine ⟨_, rfl, _, rfl, x, C, dx, [], rfl, hx2, T.cl, T.nK, (by show 0 < 1000; decide), _, rfl, _, rfl, x, C, dx, _, rfl, upd_same, T.cl, T.nO, (by show 1 < 1000; decide), ?_⟩
    rw [upd_upd]
    exact k _ (fun b o hb e => (upd_ne hb).trans (k02 _ _ e)) upd_same
end
end K06

set_option Elab.async false
set_option linter.all false
set_option maxRecDepth 100000
set_option maxHeartbeats 4000000
/-! str(x) of an instance with a def for its text. -/
namespace Mine
open PySem PySem.Spec PyProof.Rows L2
section
variable {X : Cx} {n : Nat} {C f : Addr} {fd : FuncData} {ps : List Str} {sp : L2.Sp}
def rStrOwn (C : Addr) (sp : L2.Sp) : List V → Hp → VK → Prop := fun xs H Q => ∃ a dx fs, xs = [.ref a] ∧ H a = some (.ins C dx fs) ∧ sp [.ref a] H (fun v H' => ∃ y, v = .str y ∧ Q (.str y) H') E0
theorem call_strOwn (F : FnOk X.prog X.w X.K X.mg X.base CX0 n f fd ps sp) (hr : Room (n + 2) X.A) (hs : PySem.W.findIn X.K (.ref C) "__str__" = some (some (.ref f))) (hf : PySem.W.isFn X.K (.ref f) = true) (hb : Binds X.K fd ps []) : CallR X (.type "str") (rStrOwn C sp) := by
  intro pins s σ H xs us Q I r h
  obtain ⟨a, dx, fs, rfl, ha, hsp⟩ := h
  obtain ⟨u, rfl, rx⟩ := vals1 r
  cases rx
  obtain ⟨mA, J, _⟩ := ins_get I.hok ha
  obtain ⟨od, J, _⟩ := J.look
  have hr1 : Room (n + 1) X.A.in1 := Room.in1 hr
  have hr2 : Room n X.A.in1.in1 := hr1.in1
  refine PySem.W.kso_call hr2.units0 I.kIn J hs hf ?_
  have e0 : Env0 X.prog X.w X.K X.mg X.base X.A.in1.in1 X.stack s H := by
    have e := I.env0
    exact ⟨e.frames, e.mod, e.bs, e.bsz, e.funs, e.frf, e.hok, e.bare⟩
  have hl := F.len _ _ _ _ hsp
  have r2 : Vals [V.ref a] [Value.ref a] := .cons rfl .nil
  refine wpAny_call (codeAny_mono (F.run X.A.in1.in1 X.stack s H ⟨[.ref a], []⟩ [.ref a] [.ref a] _ E0 hr2 e0 (by
    have := hb s [.ref a] I.kIn (by simpa using hl)
    simpa using this) r2 hsp) fun r s' hq => ?_)
  cases r with
  | error e => exact pass0 pins σ H s e s' I hq
  | ok fl =>
    cases fl with
    | ret w =>
      obtain ⟨z, H', I', rz, y, ez, q⟩ := I.after hq
      subst ez
      obtain ⟨t, rfl⟩ := rz
      exact ⟨.str y, H', I', ⟨t, rfl⟩, q⟩
    | next => exact False.elim hq
    | brk => exact False.elim hq
    | cont => exact False.elim hq
end
end Mine

set_option Elab.async false
set_option linter.all false
set_option maxRecDepth 100000
set_option maxHeartbeats 4000000
/-! C.m(k = ..) of a classmethod with one parameter beside the class. -/
namespace Mine
open PySem PySem.Spec PyProof.Rows L2 ClX
section
variable {X : Cx} {k : Nat} {C p g : Addr} {mc : Value} {sp : L2.Sp} {fd : FuncData} {ps : List Str} {m k1 : Str} {pos apos : Pos} {o : Expr} {kws : List Keyword} {ta : TE} {tk : TA}
def tCMethK (C : Addr) (sp : L2.Sp) (ta : TE) (tk : TA) : TE := fun σ H Q => ta σ H fun x H1 => x = .ref C ∧ tk σ H1 fun zs H2 => ∃ v, zs = [v] ∧ sp [.ref C, v] H2 Q E0
theorem pe_cmethK {pl : Sem Bool} (he : PE X o ta) (r : CRead X.K C mc) (c : CMet X.K C mc m p g) (F : FnOk X.prog X.w X.K X.mg X.base CX0 k g fd ps sp) (hr : Room k X.A)
    (hb : ∀ (s : Shared) (a u : Value), BindsTo s fd ⟨[a], [(k1, u)]⟩ (ps.zip [a, u])) (hkw : PK X kws tk)
    (hall : (backToKw pos (keywordEach kws X.env)).all (·.1.isSome) = true := by rfl) (hks : (backToKw pos (keywordEach kws X.env)).filterMap (·.1) = [k1] := by rfl)
    (hpl : ((backTo pos (starEach [] X.env)).any (·.1) || (backToKw pos (keywordEach kws X.env)).any (·.1.isNone)) = false := by rfl)
    (ht : eval (.Call (.Attribute o m apos) [] kws pos) X.env = (do
      let ov ← eval o X.env
      standAt apos.atName
      let (f, first) ← holding [ov] (getMethod ov m pl)
      callWith pos f first (backTo pos (starEach [] X.env)) (backToKw pos (keywordEach kws X.env))) := by rfl) :
    PE X (.Call (.Attribute o m apos) [] kws pos) (tCMethK C sp ta tk) := by
  refine ⟨fun pins s σ H Q I h => ?_⟩
  refine PySem.W.methodCall_KW (pl := pl) (thn (he.run pins s σ H _ I h) fun u s1 ⟨x, H1, I1, rx, ex, q⟩ => ?_) ht
  subst ex
  obtain rfl : u = Value.ref C := rx
  refine getmethcm_ok I1 r c fun s2 I2 => ?_
  refine PySem.W.callWith_of hpl (PySem.W.keeps_M (K := X.K) (self := .ref C) c.fi) (evalArgs_kw2_nil hall ?_)
  refine thn (hkw.run pos _ s2 σ H1 _ I2 q) fun ws s3 ⟨zs, H2, I3, rz, v, ez, q2⟩ => ⟨⟨pin_at I3, I3.kIn⟩, ?_⟩
  subst ez
  obtain ⟨w1, ew, r1⟩ := vals1 rz
  subst ew
  rw [hks]
  show wpAny _ _ (call (.ref _) [] [(k1, w1)]) _ _ _
  have z : wpAny (model X.prog X.w) X.A (call (.ref s1.heap.objs.size) [] [(k1, w1)]) (EP X ((s1.heap.objs.size, PySem.W.methodObj (.ref g) (.ref C)) :: pins) σ Q) X.xe s3 := by
    refine wpAny_call (PySem.W.method_call (pin_at I3) (codeAny_mono (F.run X.A X.stack s3 H2 ⟨[.ref C], [(k1, w1)]⟩ [.ref C, w1] [.ref C, v] Q E0 hr I3.env0 (hb s3 (.ref C) w1) (.cons rfl (.cons r1 .nil)) q2) fun r s' hq => ?_))
    cases r with
    | error e => exact pass0 _ σ H2 s3 e s' I3 hq
    | ok fl =>
      cases fl with
      | ret u => exact I3.after hq
      | next => exact False.elim hq
      | brk => exact False.elim hq
      | cont => exact False.elim hq
  exact thn z fun _ _ y => unpinE y
end
end Mine

set_option Elab.async false
set_option linter.all false
set_option maxRecDepth 100000
set_option maxHeartbeats 4000000
/-! d.get(key, other) of a dict that the top has left. -/
namespace Mine
open PySem PySem.Spec PyProof.Rows L2
section
variable {X : Cx} {d : Addr} {es : Array DictEntry} {n : Nat} {o e f : Expr} {apos cpos : Pos} {td ty tx : TE}
def tKGet (K : PySem.W.Frag) (d : Addr) (td ty tx : TE) : TE := fun σ H Q => td σ H fun x H1 => x = .ref d ∧ ty σ H1 fun y H2 => tx σ H2 fun z H3 => ∃ (k : Str), y = .str k ∧
  ((PySem.W.nsIn K d k = some none ∧ Q z H3) ∨ ∃ (u0 : Value) (v0 : V), PySem.W.nsIn K d k = some (some u0) ∧ RelV v0 u0 ∧ Q v0 H3)
theorem pe_kget (D : KDict X.K X.w d es n) (ho : PE X o td) (he : PE X e ty) (hf : PE X f tx) (m : M2 X o "get" apos e f cpos) : PE X (.Call (.Attribute o "get" apos) [e, f] [] cpos) (tKGet X.K d td ty tx) := by
  refine ⟨fun pins s σ H Q I h => ?_⟩
  refine wpAny_Call_method m.base m.few m.line PySem.F.plainAttrs_dict PySem.F.slot_dict_get PySem.F.type_dict_get (thn (ho.run pins s σ H _ I h) fun u s1 ⟨x, H1, I1, rx, ex, q1⟩ => ?_)
  subst ex
  obtain rfl : u = Value.ref d := rx
  refine ⟨kd_type D I1, fun b q => ?_, ?_⟩
  · cases q
    exact ⟨_, I1.kIn _ _ D.at_, rfl⟩
  rw [m.trees]
  refine Calls.callWith_builtin rfl (Calls.evalArgs_plain (Calls.spliced_cons (thn (he.run pins s1 σ H1 _ I1 q1) fun iv s2 ⟨y, H2, I2, ry, q2⟩ =>
    Calls.spliced_cons (thn (hf.run pins s2 σ H2 _ I2 q2) fun fv s3 ⟨z, H3, I3, rz, k, ek, q3⟩ => Calls.spliced_nil ?_))))
  subst ek
  obtain ⟨t, rfl⟩ := ry
  have mp := PySem.W.mapOf_K (prog := X.prog) (w := X.w) I3.kIn D.at_ D.lit
  refine call_meetsIn PySem.F.slot_dict_get mp.typeIs PySem.F.entry_dict_get (PySem.F.args_dict_get_3 _ _ _) (meets_dict_get_default (strKind X.prog X.w) d (PySem.strKind_is X.prog X.w k t) D.low fv) ⟨_, mp, ?_⟩
  rcases q3 with ⟨e0, q⟩ | ⟨u0, v0, e0, r0, q⟩
  · rw [PySem.W.find_K D.at_ e0]
    exact ⟨z, H3, I3.tok _, rz, q⟩
  · rw [PySem.W.find_K D.at_ e0]
    exact ⟨v0, H3, I3.tok _, r0, q⟩
end
end Mine

set_option Elab.async false
set_option linter.all false
set_option maxRecDepth 100000
set_option maxHeartbeats 4000000
/-! A comprehension of two clauses over tuples. -/
namespace Mine
open PySem PySem.Spec PyProof.Rows L2
theorem in_tup {K : PySem.W.Frag} {a D : Addr} {xs : List V} {g1 : TG} {tt1 : TT} {te : TE} {vs1 : List Nat} {σ2 : L2.St} {H4 : Hp} {N : Hp → Prop} (Pw : Nat → Hp → Prop) (h0 : Pw 0 H4) (hl : ∀ i H, i ≤ xs.length → Pw i H → SqT K H a xs)
    (hs : ∀ j x H, xs[j]? = some x → Pw j H → g1 x (wipe σ2 vs1) H fun σ3 H5 => wipe σ3 vs1 = wipe σ2 vs1 ∧ tt1 σ3 H5 fun b H6 =>
      if b = true then te σ3 H6 fun y H7 => ∃ acc, H7 D = some (.lst acc) ∧ acc.length < sizeLine ∧ Pw (j + 1) (upd H7 D (.lst (acc ++ [y]))) else Pw (j + 1) H6) (hd : ∀ H, Pw xs.length H → N H) :
    ∃ W1 : Nat → Nat → Hp → Prop, (∃ m, W1 0 m H4) ∧ ∀ j k H, W1 j k H → ((Itt K a).stop j H ∧ N H) ∨ ((Itt K a).go j H ∧ ∃ Nx1 : Hp → Prop, (∀ H', Nx1 H' → ∃ k', k' < k ∧ W1 (j + 1) k' H') ∧
      ∀ x H', (Itt K a).yld j H x H' → g1 x (wipe σ2 vs1) H' fun σ3 H5 => wipe σ3 vs1 = wipe σ2 vs1 ∧ tt1 σ3 H5 fun b H6 => if b = true then te σ3 H6 fun y H7 => ∃ acc, H7 D = some (.lst acc) ∧ acc.length < sizeLine ∧ Nx1 (upd H7 D (.lst (acc ++ [y]))) else Nx1 H6) := by
  refine ⟨fun i m H => m = xs.length - i ∧ i ≤ xs.length ∧ Pw i H, ⟨xs.length, by simp, Nat.zero_le _, h0⟩, ?_⟩
  rintro i m H ⟨rfl, hi, p⟩
  have q := hl i H hi p
  by_cases hlt : i < xs.length
  · refine .inr ⟨⟨xs, xs[i], q, by simp [hlt]⟩, Pw (i + 1), fun H' p' => ⟨xs.length - (i + 1), by omega, rfl, hlt, p'⟩, fun x H' y => ?_⟩
    obtain ⟨e, y⟩ := y
    subst e
    exact hs i x _ (y xs q) p
  · have e : i = xs.length := by omega
    subst e
    exact .inl ⟨⟨xs, q, Nat.le_refl _⟩, hd H p⟩
/-- the first clause over a tuple: T i says the second clause's own loop, whose end is Pv (i + 1) -/
theorem out_tup {K : PySem.W.Frag} {a D : Addr} {xs : List V} {H1 : Hp} {Qd : Hp → Prop} {T : V → Hp → (Hp → Prop) → Prop} (Pv : Nat → Hp → Prop) (h0 : Pv 0 (upd H1 D (.lst []))) (hl : ∀ i H, i ≤ xs.length → Pv i H → SqT K H a xs)
    (hs : ∀ i x H, xs[i]? = some x → Pv i H → T x H (Pv (i + 1))) (hd : ∀ H, Pv xs.length H → Qd H) :
    ∃ W : Nat → Nat → Hp → Prop, (∃ m, W 0 m (upd H1 D (.lst []))) ∧ ∀ i m H, W i m H → ((Itt K a).stop i H ∧ Qd H) ∨ ((Itt K a).go i H ∧ ∃ Nx : Hp → Prop, (∀ H', Nx H' → ∃ m', m' < m ∧ W (i + 1) m' H') ∧ ∀ x H', (Itt K a).yld i H x H' → T x H' Nx) := by
  refine ⟨fun i m H => m = xs.length - i ∧ i ≤ xs.length ∧ Pv i H, ⟨xs.length, by simp, Nat.zero_le _, h0⟩, ?_⟩
  rintro i m H ⟨rfl, hi, p⟩
  have q := hl i H hi p
  by_cases hlt : i < xs.length
  · refine .inr ⟨⟨xs, xs[i], q, by simp [hlt]⟩, Pv (i + 1), fun H' p' => ⟨xs.length - (i + 1), by omega, rfl, hlt, p'⟩, fun x H' y => ?_⟩
    obtain ⟨e, y⟩ := y
    subst e
    exact hs i x _ (y xs q) p
  · have e : i = xs.length := by omega
    subst e
    exact .inl ⟨⟨xs, q, Nat.le_refl _⟩, hd H p⟩
end Mine

set_option Elab.async false
set_option linter.all false
set_option maxRecDepth 100000
set_option maxHeartbeats 4000000
/-! for i, x in enumerate(xs, start=c): a list numbered from c on. -/
namespace Mine
open PySem PySem.Spec PyProof.Rows L2
theorem callWith_typeK {M : Model} {A : Around} {E : Value → Shared → Prop} {s : Shared} {pos : Pos} {T : String} {first : List Value} {args : List (Bool × Sem Value)} {keywords : List (Option Str × Sem Value)} {Q : Value → Shared → Prop}
    (hplain : args.any (·.1) = false) (hkw : keywords.any (·.1.isNone) = false)
    (h : wpAny M A (evalArgs (.type T) true args keywords) (fun a s₁ => wpAny M A (call (.type T) (first ++ a.pos) a.kw) Q E s₁) E s) :
    wpAny M A (callWith pos (.type T) first args keywords) Q E s := by
  unfold callWith
  refine wpAny_bind (wpAny_holding (wpAny_mono h (fun a s₁ h₁ => wpAny_bind (wpAny_standAt ?_)) fun _ _ x => x))
  simp only [hplain, hkw, Bool.or_false]
  refine wpAny_bind (wpAny_pure ?_)
  exact wpAny_bind (wpAny_mono h₁ (fun r s₂ hr => wpAny_bind (wpAny_holding (wpAny_point (wpAny_pure hr)))) fun _ _ x => x)
/-- an enumerate object whose list is at its end, whatever its number -/
theorem enum_over {P : Program} {w : World} {A : Around} {E : Value → Shared → Prop} {s : Shared} {e it l : Addr} {i : Nat} {c : Int} {items : Array Value} {old : Value} {Q : Option Value → Shared → Prop} (hd : A.handled = none)
    (ob : IsEnum s.heap e it c old) (at_ : s.heap.IsListIter it l i) (ls : s.heap.IsList l items) (no : items[i]? = none) (go : ∀ h', Heap.ExtBut it s.heap h' → Q none { s with heap := h' }) :
    wpAny (model P w) A (pyNext (.ref e)) Q E s := by
  unfold pyNext
  have ty : s.TypeIs (.ref e) "enumerate" := ⟨_, ob, rfl⟩
  refine wpAny_bind (wpAny_attempt (wpAny_callSpecial?_slot (name := Str.ofString "__next__") ty F.slot_enumerate_next (wpAny_call_entry F.slot_enumerate_next ty F.entry_enumerate_next ?q1 (F.args_enumerate_next_1 _))))
  case q1 =>
    show wpAny _ _ (field (.ref e) 2 >>= _) _ _ _
    refine wpAny_bind (wpAny_field ob rfl (x := .ref it) rfl (wpAny_bind (wpAny_nextOf_list_end hd at_ ls no fun h' z eb hz => ?_)))
    obtain ⟨oz, gz, cz⟩ := hz
    exact wpAny_bind (wpAny_isInstance (T := "StopIteration") (b := true) ⟨oz, gz, cz⟩ isSubtype_stop (wpAny_pure (go _ eb)))
/-- item i of the list at a, numbered c + i, in a new pair -/
def IteS (K : PySem.W.Frag) (c : Int) (a : Addr) : It where
  go := fun i H => ∃ xs x, SqL K H a xs ∧ xs[i]? = some x
  yld := fun i H v H' => ∃ T x, v = .ref T ∧ H T = none ∧ H' = upd H T (.tup [.int (c + (i : Nat)), x]) ∧ ∀ xs, SqL K H a xs → xs[i]? = some x
  stop := fun i H => ∃ xs, SqL K H a xs ∧ xs.length ≤ i
/-- where such a walk stands: the number that comes next, the place in the list, and that the three objects are three -/
def EnAt (c : Int) (a e it : Addr) (i : Nat) (h : Heap) : Prop := (∃ old, IsEnum h e it (c + ((i : Nat) : Int)) old) ∧ h.IsListIter it a i ∧ e ≠ it ∧ a ≠ it ∧ a ≠ e
theorem EnAt.to {c : Int} {a e it : Addr} {i : Nat} {h h' : Heap} (x : EnAt c a e it i h) (ke : ∀ o, h.get? e = some o → h'.get? e = some o) (ki : ∀ o, h.get? it = some o → h'.get? it = some o) : EnAt c a e it i h' := by
  obtain ⟨⟨old, he⟩, hi, n⟩ := x
  exact ⟨⟨old, ke _ he⟩, hi.at ki, n⟩
theorem two_of {b e it : Addr} (h : b ∈ [e, it]) : b = e ∨ b = it := by simpa using h
theorem off_two {b e it : Addr} (h : b ∉ [e, it]) : b ≠ e ∧ b ≠ it := ⟨fun z => h (by simp [z]), fun z => h (by simp [z])⟩
theorem turn_enumS {P : Program} {w : World} {K : PySem.W.Frag} {elts : List Expr} {kk : Nat} {tpos : Pos} (c : Int) (a e it : Addr) : Turn P w K (.Tuple elts kk tpos) (IteS K c a) [e, it] e (EnAt c a e it) := by
  refine { mem := List.mem_cons_self .., obj := ?ob, keep := fun i h h' x k => x.to (k e (by simp)) (k it (by simp)), item := ?nx, done := ?en, self := fun A i s Q E x h => wpAny_pyIter_enum x.1.choose_spec h }
  case ob =>
    intro i h x b hb
    obtain ⟨⟨old, he⟩, ⟨o, ho, _, hd⟩, _⟩ := x
    rcases two_of hb with rfl | rfl
    · exact ⟨_, he, fun _ q => nomatch q⟩
    · refine ⟨o, ho, fun v q => ?_⟩
      rw [hd] at q
      cases q
  case nx =>
    rintro X rfl rfl rfl hc i pins s σ H E I hf ⟨⟨old, he⟩, hit, hne, n1, n2⟩ ⟨xs, x, hq, hx⟩
    obtain ⟨its, rv, pl, _⟩ := I.list hq
    obtain ⟨u, hu, ru⟩ := rv.get hx
    have le : e < s.heap.objs.size := Heap.lt_size he
    have li : it < s.heap.objs.size := Heap.lt_size hit.choose_spec.1
    have in_ : i < its.toArray.size := by simpa using (List.getElem?_eq_some_iff.mp hu).1
    have D := Draws.list (prog := X.prog) (w := X.w) (A := X.A.in1) (I.ok.hd hc) it a n1 its.toArray
    refine wpAny_pyNext_enum_itemC D he ⟨hit, pl.isList⟩ in_ hne (by simp [hne, Ne.symm n2]) fun z h1 tk hz out st1 tup _ kp => ?_
    obtain rfl : z = u := by
      have e2 : its.toArray[i]? = some u := by simpa using hu
      exact Option.some.inj ((show its.toArray[i]? = some z from hz).symm.trans e2)
    refine ⟨_, rfl, wpAny_letOwnedTupleGo_enum (s := { s with heap := h1, toks := tk + 1 }) out fun h2 he2 sb => ?_⟩
    have ob : ObjOk X.prog X.w (upd H s.heap.objs.size (.tup [.int (c + (i : Nat)), x])) h2 s.heap.objs.size (.tup [.int (c + (i : Nat)), x]) := by
      refine ⟨(by show 2 ≤ sizeLine; decide), [.int (c + (i : Nat)) tk, z], .cons ⟨_, rfl⟩ (.cons ru .nil), _, (sb.2 _ (Nat.ne_of_gt le)).trans tup, rfl, _, rfl⟩
    refine ⟨.ref s.heap.objs.size, _, I.turnedNew (t' := tk + 1) (ch := [e, it]) (fun b o hb g => (sb.2 b (off_two hb).1).trans (kp b o (off_two hb).1 (off_two hb).2 g)) hf (Nat.le_refl _) ob, rfl,
      ⟨_, x, rfl, I.hok.fresh (Nat.le_refl _), rfl, fun ys hy => I.list_inj hq hy ▸ hx⟩, ⟨⟨z, ?_⟩, st1.1.at fun o g => (sb.2 it (Ne.symm hne)).trans g, hne, n1, n2⟩, fun b hb => ?_⟩
    · rw [show c + ((i + 1 : Nat) : Int) = c + (i : Int) + 1 by omega]
      exact he2
    · have lb : b < s.heap.objs.size := (two_of hb).elim (fun z => z ▸ le) fun z => z ▸ li
      exact (upd_ne (Nat.ne_of_lt lb)).trans (hf b hb).1
  case en =>
    rintro X rfl rfl rfl hc i pins s σ H E I hf ⟨⟨old, he⟩, hit, _⟩ ⟨xs, hq, hx⟩
    obtain ⟨its, rv, pl, _⟩ := I.list hq
    have none_ : its.toArray[i]? = none := by
      have := rv.length
      simp
      omega
    obtain ⟨f0, f1, _, f3, f4, f5⟩ := hf it (by simp)
    exact enum_over (I.ok.hd hc) he hit pl.isList none_ fun h' eb => ⟨rfl, I.turned (t' := s.toks) (fun b o hb g => eb b o hb g) f0 f1 f3 f4 f5⟩
section
variable {X : Cx} {elts : List Expr} {kk : Nat} {p pos tpos kpos : Pos} {e : Expr} {ta : TA} {kp : Pos} {jj : Nat} {c : Int}
def iEnumS (K : PySem.W.Frag) (c : Int) (ta : TA) (tk : TA) : TI := fun σ H R => ta σ H fun vs H1 => ∃ a xs, vs = [.ref a] ∧ SqL K H1 a xs ∧ tk σ H1 fun zs H2 => zs = [.int c] ∧ SqL K H2 a xs ∧ -(2 ^ 63) ≤ c ∧ c < 2 ^ 63 ∧ R (IteS K c a) H2
theorem pi_enumS {kws : List Keyword} {tk : TA} (hg : Gl X "enumerate") (hm : X.mg "enumerate" = none) (ha : PA X [e] ta) (hk : PK X kws tk) (hs : starEach [e] X.env = [(false, eval e X.env)] := by rfl)
    (hall : (backToKw pos (keywordEach kws X.env)).all (·.1.isSome) = true := by rfl) (hks : (backToKw pos (keywordEach kws X.env)).filterMap (·.1) = [PySem.Str.ofString "start"] := by rfl) (hno : (backToKw pos (keywordEach kws X.env)).any (·.1.isNone) = false := by rfl) :
    PI X (.Tuple elts kk tpos) (.Call (.Name "enumerate" p) [e] kws pos) (iEnumS X.K c ta tk) := by
  refine ⟨fun pins s σ H R I h => ?_⟩
  refine wpAny_Call_Name_kw (ld_blt I hg hm boot_enumerate (callWith_typeK (by rw [hs]; rfl) hno (evalArgs_kw2 hall (thn (ha.run pos pins s σ H _ I h) fun us s1 ⟨vs, H1, I1, r1, q1⟩ => ?_) hs)))
  obtain ⟨a, xs, ex, hq, q⟩ := q1
  subst ex
  obtain ⟨u, rfl, r⟩ := vals1 r1
  cases r
  refine thn (hk.run pos pins s1 σ H1 _ I1 q) fun ws s2 ⟨zs, H2, I2, rz, ez, hq2, c0, c1, q2⟩ => ?_
  subst ez
  obtain ⟨w1, rfl, rw1⟩ := vals1 rz
  obtain ⟨tt, rfl⟩ := rw1
  rw [hks]
  obtain ⟨its, rv, pl, hz⟩ := I2.list hq2
  show wpAny _ _ (call (.type "enumerate") [.ref a] [(PySem.Str.ofString "start", .int c tt)]) _ _ _
  refine enum_begins_start (begins_list a its.toArray) pl.isList c0 c1 fun h' he hit hsz hkp => wpAny_pyIter_enum he ?_
  have I3 : L2.Inv X pins σ H2 { s2 with heap := h' } := I2.kept (t' := s2.toks) hkp
  have al : a < s2.heap.objs.size := by
    obtain ⟨o, ho, _⟩ := pl.isList
    exact Heap.lt_size ho
  refine ⟨s2.heap.objs.size + 1, [s2.heap.objs.size + 1, s2.heap.objs.size], _, _, H2, rfl, I3, turn_enumS c a (s2.heap.objs.size + 1) s2.heap.objs.size, ⟨⟨.none, ?_⟩, ⟨_, hit, rfl, rfl⟩, Nat.succ_ne_self _, Nat.ne_of_lt al, Nat.ne_of_lt (Nat.lt_succ_of_lt al)⟩, fun b hb => ?_, q2⟩
  · have e1 : c + ((0 : Nat) : Int) = c := by omega
    rw [e1]
    exact he
  · have hle : s2.heap.objs.size ≤ b := by
      have e' : b = s2.heap.objs.size + 1 ∨ b = s2.heap.objs.size := by simpa using hb
      rcases e' with z | z
      · rw [z]; exact Nat.le_add_right _ _
      · rw [z]; exact Nat.le_refl _
    exact I2.fpOk hle (I2.hok.fresh hle)
end
end Mine

set_option Elab.async false
set_option linter.all false
set_option maxRecDepth 100000
set_option maxHeartbeats 4000000
/-! cls(..): a call of a class that stands in a slot (the first parameter of a classmethod). -/
namespace Mine
open PySem PySem.Spec PyProof.Rows L2 ClX
section
variable {X : Cx} {CX : CXT} {k : Nat} {f C : Addr} {fd : FuncData} {ps : List Str} {ds : List Value} {dvs : List V} {sp : L2.Sp} {E : XK} {x : Str} {p pos : Pos} {e : Expr} {es : List Expr} {t : TA} {tn : TE}
def tMakeL (C : Addr) (sp : L2.Sp) (dvs : List V) (E : XK) (tn : TE) (t : TA) : TE := fun σ H Q => tn σ H fun y H1 => y = .ref C ∧ tMake C sp dvs E t σ H1 Q
theorem pe_makeL (M : Mk X.K C f) (F : FnOk X.prog X.w X.K X.mg X.base CX k f fd ps sp) (hr : Room (k + 1) X.A) (hn : PE X (.Name x p) tn) (hb : Binds X.K fd ps ds) (hd : Vals dvs ds) (hx : Passes CX X E)
    (ha : PA X (e :: es) t) (he : starEach (e :: es) X.env = (false, eval e X.env) :: starEach es X.env := by rfl) (hpl : (backTo pos (starEach es X.env)).any (·.1) = false := by rfl) :
    PE X (.Call (.Name x p) (e :: es) [] pos) (tMakeL C sp dvs E tn t) := by
  refine ⟨fun pins s σ H Q I h => ?_⟩
  refine PySem.wpAny_Call_Name_kw (thn (hn.run pins s σ H _ I h) fun u s1 ⟨y, H1, I1, ry, ey, q⟩ => ?_)
  subst ey
  obtain rfl : u = Value.ref C := ry
  refine PySem.W.callWith_K (h₀ := X.base) I1.ok.mod.kin M.kp (thn (ha.run pos pins s1 σ H1 _ I1 q) fun us s2 ⟨vs, H2, I2, r, q2⟩ => ⟨I2.kIn, ?_⟩) he hpl
  exact run_make M F hr hb hd hx I2 r q2
end
end Mine

set_option Elab.async false
set_option linter.all false
set_option maxRecDepth 100000
set_option maxHeartbeats 4000000
/-! Items of a book, their texts' sizes, that drawn books are right, and the text of a book as lines of words. -/
namespace K06
open PySem PySem.Spec PyProof.Rows L2 Mine TL
structure SA (s l k : Nat) (ds : List PyData) : Prop where
  ok : PyData.showableAll ds = true
  len : ((PyData.shownAll ds).map (·.length)).sum ≤ s
  num : (PyData.shownAll ds).length = k
  dep : PyData.depthAll ds ≤ l
theorem SA.nil {l : Nat} : SA 0 l 0 [] := ⟨by simp [PyData.showableAll], by simp [PyData.shownAll], by simp [PyData.shownAll], by simp [PyData.depthAll]⟩
theorem SA.snoc {s n l k : Nat} {d : PyData} (h : Shows n l d) {ds : List PyData} (a : SA s l k ds) : SA (s + n) l (k + 1) (ds ++ [d]) := by
  have ap1 : ∀ xs : List PyData, PyData.showableAll (xs ++ [d]) = (PyData.showableAll xs && d.showable) := fun xs => by
    induction xs with
    | nil => simp [PyData.showableAll]
    | cons x r ih => simp [PyData.showableAll, ih, Bool.and_assoc]
  have ap2 : ∀ xs : List PyData, PyData.shownAll (xs ++ [d]) = PyData.shownAll xs ++ [d.shown] := fun xs => by
    induction xs with
    | nil => simp [PyData.shownAll]
    | cons x r ih => simp [PyData.shownAll, ih]
  have ap3 : ∀ xs : List PyData, PyData.depthAll (xs ++ [d]) = max (PyData.depthAll xs) d.depth := fun xs => by
    induction xs with
    | nil => simp [PyData.depthAll]
    | cons x r ih =>
      simp only [List.cons_append, PyData.depthAll, ih]
      omega
  refine ⟨by rw [ap1, a.ok, h.ok]; rfl, ?_, ?_, ?_⟩
  · rw [ap2, List.map_append, List.sum_append]
    have := h.len
    have := a.len
    simp only [List.map_cons, List.map_nil, List.sum_cons, List.sum_nil]
    omega
  · rw [ap2, List.length_append]
    have := a.num
    simp only [List.length_cons, List.length_nil]
    omega
  · rw [ap3]
    have := h.dep
    have := a.dep
    omega
theorem SA.cons {s n l k : Nat} {d : PyData} (h : Shows n l d) {ds : List PyData} (a : SA s l k ds) : SA (s + n) l (k + 1) (d :: ds) := by
  have h1 := h.len
  have h2 := h.dep
  have a1 := a.len
  have a2 := a.dep
  have a3 := a.num
  refine ⟨?_, ?_, ?_, ?_⟩
  · simp only [PyData.showableAll, h.ok, a.ok]
    rfl
  · simp only [PyData.shownAll, List.map_cons, List.sum_cons]
    omega
  · simp only [PyData.shownAll, List.length_cons]
    omega
  · simp only [PyData.depthAll]
    omega
theorem SA.tuple {s l k : Nat} {ds : List PyData} (a : SA s l k ds) : Shows (s + 2 * k + 3) (l + 1) (.tuple ds) := by
  have h1 := tupleText_len_le (PyData.shownAll ds)
  have h3 := a.len
  have h4 := a.num
  have h5 := a.dep
  exact ⟨by simpa only [PyData.showable] using a.ok, by simp only [PyData.shown]; omega, by simp only [PyData.depth]; omega⟩
theorem SA.list {s l k : Nat} {ds : List PyData} (a : SA s l k ds) : Shows (s + 2 * k + 3) (l + 1) (.list ds) := by
  have h1 := listText_len_le (PyData.shownAll ds)
  have h3 := a.len
  have h4 := a.num
  have h5 := a.dep
  exact ⟨by simpa only [PyData.showable] using a.ok, by simp only [PyData.shown]; omega, by simp only [PyData.depth]; omega⟩
theorem w8_shows : ∀ x ∈ W8, (PyData.shown (.str x)).length ≤ 10 := by decide +kernel
theorem w8_str {x : Str} (h : x ∈ W8) : Shows 10 0 (.str x) := ⟨by simp [PyData.showable], w8_shows x h, by simp [PyData.depth]⟩
def ItemAt (H : Hp) (a : Addr) (o : Opn) : Prop := ∃ (b : Addr) (bs : List Addr), H a = some (.tup [.str o.w, .str o.k, .int o.g, .ref b]) ∧ H b = some (.tup (bs.map V.ref)) ∧ Paired (fun x n => H x = some (.tup (ndV n))) bs o.nn
theorem ItemAt.mono {H H' : Hp} {a : Addr} {o : Opn} (k : ∀ b xs, H b = some (.tup xs) → H' b = some (.tup xs)) (h : ItemAt H a o) : ItemAt H' a o :=
  let ⟨b, bs, h1, h2, h3⟩ := h
  ⟨b, bs, k _ _ h1, k _ _ h2, paired_mono (fun _ _ => k _ _) h3⟩
theorem ItemAt.opn {K : PySem.W.Frag} {H : Hp} {a : Addr} {o : Opn} (h : ItemAt H a o) : OpnAt K H a o :=
  let ⟨b, bs, h1, h2, h3⟩ := h
  ⟨b, bs, SqT.of h1, SqT.of h2, paired_mono (fun _ _ => SqT.of) h3⟩
theorem ks_paired {H : Hp} : ∀ {ms : List V} {ks : List (Str × Int)}, DKs H ms (ks.map kD) → ∃ ps : List Addr, ms = ps.map V.ref ∧ Paired (fun a p => H a = some (.tup [.str p.1, .int p.2])) ps ks
  | _, [], h => by cases h; exact ⟨[], rfl, .nil⟩
  | _, p :: ks, h => by
    cases h with
    | cons h1 h2 =>
      obtain ⟨a, rfl, e⟩ := kd_of h1
      obtain ⟨ps, rfl, r⟩ := ks_paired h2
      exact ⟨a :: ps, rfl, .cons e r⟩
theorem w8_nodup : W8.Nodup := by decide +kernel
def opD (o : Opn) : PyData := .tuple [.str o.w, .str o.k, .int o.g, .tuple (o.nn.map ndD)]
theorem nd_dk {H : Hp} {x : Addr} {n : Nd} (h : H x = some (.tup (ndV n))) : DK H (.ref x) (ndD n) := by
  cases n with
  | part j => exact .tup h (.cons (.str _) (.cons (.int _) .nil))
  | around c j => exact .tup h (.cons (.str _) (.cons (.str _) (.cons (.int _) .nil)))
  | inside j c => exact .tup h (.cons (.str _) (.cons (.int _) (.cons (.str _) .nil)))
theorem nds_dk {H : Hp} : ∀ {bs : List Addr} {nn : List Nd}, Paired (fun x n => H x = some (.tup (ndV n))) bs nn → DKs H (bs.map V.ref) (nn.map ndD)
  | _, _, .nil => .nil
  | _, _, .cons h r => .cons (nd_dk h) (nds_dk r)
theorem item_dk {H : Hp} {a : Addr} {o : Opn} (h : ItemAt H a o) : DK H (.ref a) (opD o) :=
  let ⟨_, _, h1, h2, h3⟩ := h
  .tup h1 (.cons (.str _) (.cons (.str _) (.cons (.int _) (.cons (.tup h2 (nds_dk h3)) .nil))))
theorem items_dk {H : Hp} : ∀ {as : List Addr} {os : List Opn}, Paired (ItemAt H) as os → DKs H (as.map V.ref) (os.map opD)
  | _, _, .nil => .nil
  | _, _, .cons h r => .cons (item_dk h) (items_dk r)
theorem sa_all {n l : Nat} : ∀ ds : List PyData, (∀ d ∈ ds, Shows n l d) → SA (n * ds.length) l ds.length ds
  | [], _ => SA.nil
  | d :: ds, h => by
    have := SA.cons (h d (List.mem_cons_self ..)) (sa_all ds fun x hx => h x (List.mem_cons_of_mem _ hx))
    rw [List.length_cons, Nat.mul_succ]
    exact this
theorem int_show {j : Int} (h0 : 0 ≤ j) (h1 : j < 4) : Shows 1 0 (.int j) := by
  have : j = 0 ∨ j = 1 ∨ j = 2 ∨ j = 3 := by omega
  rcases this with rfl | rfl | rfl | rfl <;> exact ⟨by decide +kernel, by decide +kernel, by decide +kernel⟩
theorem ww_shows : ∀ x ∈ WW, (PyData.shown (.str x)).length ≤ 10 := by decide +kernel
theorem ww_str {x : Str} (h : x ∈ WW) : Shows 10 0 (.str x) := ⟨by simp [PyData.showable], ww_shows x h, by simp [PyData.depth]⟩
theorem lit_str {x : Str} (h : (PyData.shown (.str x)).length ≤ 10 := by decide +kernel) : Shows 10 0 (.str x) := ⟨by simp [PyData.showable], h, by simp [PyData.depth]⟩
theorem w8_ww : ∀ x ∈ W8, x ∈ WW := by decide +kernel
theorem nd_show {m : Int} {ks : List (Str × Int)} {n : Nd} (h : NdOk m ks n) (h3 : m ≤ 3) (kw : ∀ p ∈ ks, p.1 ∈ WW) : Shows 40 1 (ndD n) := by
  cases n with
  | part j =>
    obtain ⟨j0, j1⟩ := h
    exact (SA.cons lit_str (SA.cons (int_show j0 (by omega)) SA.nil)).tuple.up (by decide) (Nat.le_refl _)
  | around c j =>
    obtain ⟨c1, j0, j1⟩ := h
    exact (SA.cons lit_str (SA.cons (ww_str (kw _ c1)) (SA.cons (int_show j0 (by omega)) SA.nil))).tuple.up (by decide) (Nat.le_refl _)
  | inside j c =>
    obtain ⟨c1, j0, j1⟩ := h
    exact (SA.cons lit_str (SA.cons (int_show j0 (by omega)) (SA.cons (ww_str (kw _ c1)) SA.nil))).tuple.up (by decide) (Nat.le_refl _)
theorem op_show {ks : List (Str × Int)} {o : Opn} (h : OpnOk ks o) (kw : ∀ p ∈ ks, p.1 ∈ WW) (kn : ∀ p ∈ ks, p.2 ≤ 3) : Shows 150 3 (opD o) := by
  obtain ⟨m, hm, g0, g1, nl, hn⟩ := h.ex
  have m3 : m ≤ 3 := kn _ hm
  have s1 : Shows 87 2 (.tuple (o.nn.map ndD)) := by
    have := (sa_all (n := 40) (l := 1) (o.nn.map ndD) fun d hd => by
      obtain ⟨n, hn1, rfl⟩ := List.mem_map.mp hd
      exact nd_show (hn n hn1) m3 kw).tuple
    rw [List.length_map] at this
    exact this.up (by omega) (by omega)
  exact (SA.cons ((ww_str h.ww).up (Nat.le_refl _) (Nat.zero_le 2)) (SA.cons ((ww_str (kw _ hm)).up (Nat.le_refl _) (Nat.zero_le 2)) (SA.cons ((int_show g0 (by omega)).up (Nat.le_refl _) (Nat.zero_le 2)) (SA.cons s1 SA.nil)))).tuple.up (by decide) (Nat.le_refl _)
theorem os_show {ks : List (Str × Int)} {os : List Opn} (h : ∀ o ∈ os, OpnOk ks o) (kw : ∀ p ∈ ks, p.1 ∈ WW) (kn : ∀ p ∈ ks, p.2 ≤ 3) (hl : os.length ≤ 20) : Shows 3100 4 (.tuple (os.map opD)) := by
  have := (sa_all (n := 150) (l := 3) (os.map opD) fun d hd => by
    obtain ⟨o, ho, rfl⟩ := List.mem_map.mp hd
    exact op_show (h o ho) kw kn).tuple
  rw [List.length_map] at this
  exact this.up (by omega) (by omega)
theorem ks_show {ks : List (Str × Int)} (kw : ∀ p ∈ ks, p.1 ∈ WW) (kn : ∀ p ∈ ks, 1 ≤ p.2 ∧ p.2 ≤ 3) (hl : ks.length ≤ 20) : Shows 500 2 (.tuple (ks.map kD)) := by
  have := (sa_all (n := 20) (l := 1) (ks.map kD) fun d hd => by
    obtain ⟨p, hp, rfl⟩ := List.mem_map.mp hd
    have := kn p hp
    exact (SA.cons (ww_str (kw p hp)) (SA.cons (int_show (j := p.2) (by omega) (by omega)) SA.nil)).tuple.up (by decide) (Nat.le_refl _)).tuple
  rw [List.length_map] at this
  exact this.up (by omega) (by omega)
theorem nd_of {m : Int} {ks : List (Str × Int)} {d : PyData} (h : NeedOk m (singles ks) d) : ∃ n, d = ndD n ∧ NdOk m ks n := by
  rcases h with ⟨j, j0, j1, rfl⟩ | ⟨c, j, hc, j0, j1, rfl⟩ | ⟨c, j, hc, j0, j1, rfl⟩
  · exact ⟨.part j, rfl, j0, j1⟩
  · exact ⟨.around c j, rfl, singles_mem hc, j0, j1⟩
  · exact ⟨.inside j c, rfl, singles_mem hc, j0, j1⟩
theorem nds_of {m : Int} {ks : List (Str × Int)} : ∀ {l : List PyData}, (∀ d ∈ l, NeedOk m (singles ks) d) → ∃ nn : List Nd, l = nn.map ndD ∧ ∀ n ∈ nn, NdOk m ks n
  | [], _ => ⟨[], rfl, fun _ z => (List.not_mem_nil z).elim⟩
  | d :: l, h => by
    obtain ⟨n, rfl, hn⟩ := nd_of (h d (List.mem_cons_self ..))
    obtain ⟨nn, rfl, hnn⟩ := nds_of (l := l) fun x hx => h x (List.mem_cons_of_mem _ hx)
    exact ⟨n :: nn, rfl, fun x hx => by
      rcases List.mem_cons.mp hx with rfl | hx
      · exact hn
      · exact hnn x hx⟩
theorem w6_ww : ∀ x ∈ W6, x ∈ WW := by decide +kernel
theorem w6_out : ∀ x ∈ W6, x ∉ W8 := by decide +kernel
theorem ops_of {ks : List (Str × Int)} (sub : (ks.map (·.1)).Sublist W8) : ∀ {os : List Op}, (∀ o ∈ os, OpOk ks o) → (∀ o ∈ os, o.w ∈ W6) → ∃ os' : List Opn, os.map oD = os'.map opD ∧ os'.map (·.w) = os.map (·.w) ∧ ∀ o ∈ os', OpnOk ks o
  | [], _, _ => ⟨[], rfl, rfl, fun _ z => (List.not_mem_nil z).elim⟩
  | o :: os, h, hw => by
    obtain ⟨os', e1, e2, h'⟩ := ops_of sub (os := os) (fun x hx => h x (List.mem_cons_of_mem _ hx)) fun x hx => hw x (List.mem_cons_of_mem _ hx)
    obtain ⟨m, hm, g0, g1, nl, hn⟩ := (h o (List.mem_cons_self ..)).ex
    obtain ⟨nn, en, hnn⟩ := nds_of hn
    have w6 := hw o (List.mem_cons_self ..)
    refine ⟨⟨o.w, o.k, o.g, nn⟩ :: os', ?_, ?_, fun x hx => ?_⟩
    · rw [List.map_cons, List.map_cons, e1]
      show oD o :: _ = opD ⟨o.w, o.k, o.g, nn⟩ :: _
      unfold oD opD
      rw [en]
    · rw [List.map_cons, List.map_cons, e2]
    · rcases List.mem_cons.mp hx with rfl | hx
      · exact ⟨w6_ww _ w6, fun z => w6_out _ w6 (sub.subset z), m, hm, g0, g1, by rw [en, List.length_map] at nl; exact nl, hnn⟩
      · exact h' x hx
theorem nd_at {H : Hp} {v : V} {n : Nd} (h : DK H v (ndD n)) : ∃ a, v = .ref a ∧ H a = some (.tup (ndV n)) := by
  cases n with
  | part j =>
    cases h with
    | tup e r =>
      cases r with
      | cons h1 r =>
        cases h1
        cases r with
        | cons h2 r =>
          cases h2
          cases r
          exact ⟨_, rfl, e⟩
  | around c j =>
    cases h with
    | tup e r =>
      cases r with
      | cons h1 r =>
        cases h1
        cases r with
        | cons h2 r =>
          cases h2
          cases r with
          | cons h3 r =>
            cases h3
            cases r
            exact ⟨_, rfl, e⟩
  | inside j c =>
    cases h with
    | tup e r =>
      cases r with
      | cons h1 r =>
        cases h1
        cases r with
        | cons h2 r =>
          cases h2
          cases r with
          | cons h3 r =>
            cases h3
            cases r
            exact ⟨_, rfl, e⟩
theorem nds_at {H : Hp} : ∀ {vs : List V} {nn : List Nd}, DKs H vs (nn.map ndD) → ∃ bs : List Addr, vs = bs.map V.ref ∧ Paired (fun x n => H x = some (.tup (ndV n))) bs nn
  | _, [], h => by cases h; exact ⟨[], rfl, .nil⟩
  | _, n :: nn, h => by
    cases h with
    | cons h1 h2 =>
      obtain ⟨a, rfl, e⟩ := nd_at h1
      obtain ⟨bs, rfl, r⟩ := nds_at h2
      exact ⟨a :: bs, rfl, .cons e r⟩
theorem item_at {H : Hp} {v : V} {o : Opn} (h : DK H v (opD o)) : ∃ a, v = .ref a ∧ ItemAt H a o := by
  cases h with
  | tup e r =>
    cases r with
    | cons h1 r =>
      cases h1
      cases r with
      | cons h2 r =>
        cases h2
        cases r with
        | cons h3 r =>
          cases h3
          cases r with
          | cons h4 r =>
            cases r
            cases h4 with
            | tup e4 r4 =>
              obtain ⟨bs, rfl, p⟩ := nds_at r4
              exact ⟨_, rfl, _, bs, e, e4, p⟩
theorem items_at {H : Hp} : ∀ {vs : List V} {os : List Opn}, DKs H vs (os.map opD) → ∃ as : List Addr, vs = as.map V.ref ∧ Paired (ItemAt H) as os
  | _, [], h => by cases h; exact ⟨[], rfl, .nil⟩
  | _, o :: os, h => by
    cases h with
    | cons h1 h2 =>
      obtain ⟨a, rfl, e⟩ := item_at h1
      obtain ⟨as, rfl, r⟩ := items_at h2
      exact ⟨a :: as, rfl, .cons e r⟩
def Lt (a b : Str) : Prop := a.cps.toList < b.cps.toList
instance : DecidableRel Lt := fun a b => inferInstanceAs (Decidable (a.cps.toList < b.cps.toList))
theorem asc_of {l : List Str} (h : l.Pairwise Lt) : Asc l := by
  intro i a b ha hb
  obtain ⟨h1, e1⟩ := List.getElem?_eq_some_iff.mp ha
  obtain ⟨h2, e2⟩ := List.getElem?_eq_some_iff.mp hb
  have := List.pairwise_iff_getElem.mp h i (i + 1) h1 h2 (Nat.lt_succ_self i)
  rw [e1, e2] at this
  exact this
theorem w8_lt : W8.Pairwise Lt := by decide +kernel
theorem w6_lt : W6.Pairwise Lt := by decide +kernel
theorem w6_nodup : W6.Nodup := by decide +kernel
theorem ks_ok {ks : List (Str × Int)} {os : List Op} (h : KitOk ks os) : KsOk ks := by
  refine ⟨h.ne, fun p hp => w8_ww _ (h.sub.subset (List.mem_map_of_mem hp)), h.num, asc_of (w8_lt.sublist h.sub), h.sub.nodup w8_nodup, ?_⟩
  have := h.sub.length_le
  rw [List.length_map] at this
  have e : W8.length = 8 := rfl
  omega
theorem os_len {ks : List (Str × Int)} {os : List Op} (h : KitOk ks os) : os.length ≤ 6 := by
  have := h.osub.length_le
  rw [List.length_map] at this
  exact this
def sk (s : String) (n : Int) : Str × Int := (PySem.Str.ofString s, n)
def stdKs : List (Str × Int) := [(PySem.Str.ofString "half", 1), (PySem.Str.ofString "lock", 2), (PySem.Str.ofString "mark", 1), (PySem.Str.ofString "pair", 2), (PySem.Str.ofString "seal", 2), (PySem.Str.ofString "sign", 2)]
def stdOs : List Opn := [⟨PySem.Str.ofString "first", PySem.Str.ofString "pair", 0, []⟩, ⟨PySem.Str.ofString "open", PySem.Str.ofString "lock", 0, [.part 1]⟩, ⟨PySem.Str.ofString "second", PySem.Str.ofString "pair", 1, []⟩, ⟨PySem.Str.ofString "shown", PySem.Str.ofString "sign", 0, []⟩,
  ⟨PySem.Str.ofString "signed", PySem.Str.ofString "sign", 0, [.around (PySem.Str.ofString "half") 1]⟩, ⟨PySem.Str.ofString "unseal", PySem.Str.ofString "seal", 0, [.inside 1 (PySem.Str.ofString "half")]⟩]
theorem std_ks : KsOk stdKs := ⟨by decide +kernel, by decide +kernel, by decide +kernel, asc_of (by decide +kernel), by decide +kernel, by decide +kernel⟩
theorem std_str : ∀ p ∈ stdKs, PyData.strOk p.1 = true := by decide +kernel
theorem std_os : OsOk stdKs stdOs := by
  refine ⟨fun o ho => ?_, asc_of (by decide +kernel), by decide +kernel⟩
  simp only [stdOs, List.mem_cons, List.not_mem_nil, or_false] at ho
  have no : ∀ {m : Int}, ∀ n ∈ ([] : List Nd), NdOk m stdKs n := fun _ z => (List.not_mem_nil z).elim
  have one : ∀ {m : Int} {n0 : Nd}, NdOk m stdKs n0 → ∀ n ∈ [n0], NdOk m stdKs n := fun h n hn => by
    rw [List.mem_singleton.mp hn]
    exact h
  rcases ho with rfl | rfl | rfl | rfl | rfl | rfl
  · exact ⟨by decide +kernel, by decide +kernel, 2, by decide +kernel, by decide, by decide, by decide, no⟩
  · exact ⟨by decide +kernel, by decide +kernel, 2, by decide +kernel, by decide, by decide, by decide, one ⟨by decide, by decide⟩⟩
  · exact ⟨by decide +kernel, by decide +kernel, 2, by decide +kernel, by decide, by decide, by decide, no⟩
  · exact ⟨by decide +kernel, by decide +kernel, 2, by decide +kernel, by decide, by decide, by decide, no⟩
  · exact ⟨by decide +kernel, by decide +kernel, 2, by decide +kernel, by decide, by decide, by decide, one ⟨by decide +kernel, by decide, by decide⟩⟩
  · exact ⟨by decide +kernel, by decide +kernel, 2, by decide +kernel, by decide, by decide, by decide, one ⟨by decide +kernel, by decide, by decide⟩⟩
/-- the constants of the standard book as the top has left them -/
structure Std (K : PySem.W.Frag) (kk oo : Addr) (ps as : List Addr) : Prop where
  ks : ∀ H, KindsAt K H kk ps stdKs
  os : ∀ H, OpnsAt K H oo as stdOs
structure TxtS (K : PySem.W.Frag) (mg : Str → Option Value) (C kk oo : Addr) : Prop where
  gB : mg "Book" = some (.ref C)
  gK : ∃ u, mg "STANDARD_KINDS" = some u ∧ RelV (.ref kk) u
  gO : ∃ u, mg "STANDARD_OPENINGS" = some u ∧ RelV (.ref oo) u
def spStd (C kk oo : Addr) : Sp := fun vs H Q _ => vs = [] ∧ ∀ x dx H', Same H H' → H' x = some (.ins C dx (fsB kk oo)) → Q (.ref x) H'
section
variable {P : Program} {w : World} {K : PySem.W.Frag} {mg : Str → Option Value} {base : Heap}
abbrev sStd : Stmt := top 17
theorem scStd : FnScope [] [] (defScope sStd) := ⟨rfl, rfl, rfl, by decide +kernel, rfl, by decide +kernel, by decide +kernel⟩
/-- a book made -/
theorem made {C kk oo : Addr} {ps as : List Addr} {ks : List (Str × Int)} {os : List Opn} {H : Hp} {G : V → Hp → Prop} {E : XK} (hk : KindsAt K H kk ps ks) (kok : KsOk ks) (ho : OpnsAt K H oo as os) (ook : OsOk ks os) (k : ∀ x dx H', Same H H' → H x = none → H' x = some (.ins C dx (fsB kk oo)) → G (.ref x) H') :
    ∀ x dx, H x = none → H dx = none → dx ≠ x → spInit K C (.ref x :: ([.ref kk, .ref oo] ++ [])) (upd (upd H dx (.own x)) x (.ins C dx [])) (fun v H2 => v = .non ∧ G (.ref x) H2) E := by
  intro x dx hx hdx ne
  have s1 : Same H (upd (upd H dx (.own x)) x (.ins C dx [])) := fun b o e => (upd_ne (ne_of_none e hx)).trans ((upd_ne (ne_of_none e hdx)).trans e)
  exact ⟨x, dx, kk, oo, ps, as, ks, os, rfl, upd_same, hk.same s1, kok, ho.same s1, ook, fun H' keep hx' => ⟨rfl, k x dx H' (fun b o e => keep b o (ne_of_none e hx) (s1 _ _ e)) hx hx'⟩⟩
theorem ok_std {f C fI kk oo : Addr} {ps as : List Addr} {fd dI : FuncData} (F : Fun K "standard_book" "standard_book" sStd f fd) (T : TxtS K mg C kk oo) (S : Std K kk oo ps as) (M : Mk K C fI) (GI : FnOk P w K mg base CX0 6 fI dI ["self", "kinds", "openings"] (spInit K C)) (bI : Binds K dI ["self", "kinds", "openings"] []) :
    FnOk P w K mg base CX0 8 f fd [] (spStd C kk oo) := by
  refine F.ok scStd (fun vs H Q E h => ?_) (fun cdv A outer s H vs Q E hr h => ?_)
  · obtain ⟨rfl, _⟩ := h
    rfl
  · obtain ⟨rfl, k⟩ := h
    refine ⟨_, pss_one (ps_ret (pe_make M GI hr rfl T.gB bI .nil pass0 (pa_cons (C8.pe_gc (v := .ref kk) rfl T.gK) (pa_cons (C8.pe_gc (v := .ref oo) rfl T.gO) pa_nil)))), ?_⟩
    exact made (S.ks H) std_ks (S.os H) std_os fun x dx H' s' _ hx' => k x dx H' s' hx'
end
def spS : Str := PySem.Str.ofString " "
def nlS : Str := PySem.Str.ofString "\n"
def num (i : Int) : Str := PySem.Str.ofString (toString i)
def kindW (p : Str × Int) : List Str := [PySem.Str.ofString "kind", p.1, num p.2]
def ndW : Nd → List Str
  | .part j => [PySem.Str.ofString "part", num j]
  | .around c j => [PySem.Str.ofString "around", c, num j]
  | .inside j c => [PySem.Str.ofString "inside", num j, c]
def opW (o : Opn) : List Str := [PySem.Str.ofString "opening", o.w, o.k, num o.g] ++ o.nn.flatMap ndW
def lineOf (ws : List Str) : Str := Txt.join spS ws
def pageL (ks : List (Str × Int)) (os : List Opn) : List Str := ks.map (fun p => lineOf (kindW p)) ++ os.map fun o => lineOf (opW o)
def page (ks : List (Str × Int)) (os : List Opn) : Str := Txt.join nlS (pageL ks os)
/-- a word that may stand in a line -/
structure Wd (x : Str) : Prop where
  sp : 32 ∉ tl x
  nl : 10 ∉ tl x
theorem ww_wd : ∀ x ∈ WW, 32 ∉ tl x ∧ 10 ∉ tl x := by decide +kernel
theorem wd_ww {x : Str} (h : x ∈ WW) : Wd x := ⟨(ww_wd x h).1, (ww_wd x h).2⟩
theorem wd_lit {x : Str} (h : 32 ∉ tl x := by decide +kernel) (h2 : 10 ∉ tl x := by decide +kernel) : Wd x := ⟨h, h2⟩
theorem wd_num {j : Int} (h0 : 0 ≤ j) (h1 : j < 4) : Wd (num j) := by
  have : j = 0 ∨ j = 1 ∨ j = 2 ∨ j = 3 := by omega
  rcases this with rfl | rfl | rfl | rfl <;> exact wd_lit
theorem num_inj {i j : Int} (i0 : 0 ≤ i) (i1 : i < 4) (j0 : 0 ≤ j) (j1 : j < 4) (h : num i = num j) : i = j := by
  have a : i = 0 ∨ i = 1 ∨ i = 2 ∨ i = 3 := by omega
  have b : j = 0 ∨ j = 1 ∨ j = 2 ∨ j = 3 := by omega
  rcases a with rfl | rfl | rfl | rfl <;> rcases b with rfl | rfl | rfl | rfl <;> first | rfl | exact absurd h (by decide +kernel)
theorem split_line {ws : List Str} (hne : ws ≠ []) (h : ∀ x ∈ ws, Wd x) : Txt.split (lineOf ws) spS = ws :=
  split_join (s := 32) (S := []) (by decide +kernel) (by decide +kernel) hne fun p hp => (h p hp).sp
theorem joinL_free {s : Nat} {S : List Nat} (hS : s ∉ S) : ∀ {ps : List (List Nat)}, (∀ p ∈ ps, s ∉ p) → s ∉ joinL S ps
  | [], _ => by simp [joinL]
  | [p], h => h p (List.mem_cons_self ..)
  | p :: q :: r, h => by
    show s ∉ p ++ (S ++ joinL S (q :: r))
    intro z
    rcases List.mem_append.mp z with z | z
    · exact h p (List.mem_cons_self ..) z
    · rcases List.mem_append.mp z with z | z
      · exact hS z
      · exact joinL_free hS (fun x hx => h x (List.mem_cons_of_mem _ hx)) z
theorem line_nl {ws : List Str} (h : ∀ x ∈ ws, Wd x) : 10 ∉ tl (lineOf ws) := by
  unfold lineOf
  rw [join_eq, tl_join]
  refine joinL_free (by decide +kernel) fun p hp => ?_
  obtain ⟨x, hx, rfl⟩ := List.mem_map.mp hp
  exact (h x hx).nl
theorem split_page {ls : List Str} (hne : ls ≠ []) (h : ∀ l ∈ ls, 10 ∉ tl l) : Txt.split (Txt.join nlS ls) nlS = ls :=
  split_join (s := 10) (S := []) (by decide +kernel) (by decide +kernel) hne h
theorem kindW_wd {ks : List (Str × Int)} (h : KsOk ks) {p : Str × Int} (hp : p ∈ ks) : ∀ x ∈ kindW p, Wd x := by
  have n := h.num p hp
  intro x hx
  simp only [kindW, List.mem_cons, List.not_mem_nil, or_false] at hx
  rcases hx with rfl | rfl | rfl
  · exact wd_lit
  · exact wd_ww (h.ww p hp)
  · exact wd_num (by omega) (by omega)
theorem ndW_wd {m : Int} {ks : List (Str × Int)} {n : Nd} (h : NdOk m ks n) (h3 : m ≤ 3) (kw : ∀ p ∈ ks, p.1 ∈ WW) : ∀ x ∈ ndW n, Wd x := by
  intro x hx
  cases n with
  | part j =>
    obtain ⟨j0, j1⟩ := h
    simp only [ndW, List.mem_cons, List.not_mem_nil, or_false] at hx
    rcases hx with rfl | rfl
    · exact wd_lit
    · exact wd_num j0 (by omega)
  | around c j =>
    obtain ⟨c1, j0, j1⟩ := h
    simp only [ndW, List.mem_cons, List.not_mem_nil, or_false] at hx
    rcases hx with rfl | rfl | rfl
    · exact wd_lit
    · exact wd_ww (kw _ c1)
    · exact wd_num j0 (by omega)
  | inside j c =>
    obtain ⟨c1, j0, j1⟩ := h
    simp only [ndW, List.mem_cons, List.not_mem_nil, or_false] at hx
    rcases hx with rfl | rfl | rfl
    · exact wd_lit
    · exact wd_num j0 (by omega)
    · exact wd_ww (kw _ c1)
theorem opW_wd {ks : List (Str × Int)} (hk : KsOk ks) {o : Opn} (h : OpnOk ks o) : ∀ x ∈ opW o, Wd x := by
  obtain ⟨m, hm, g0, g1, nl, hn⟩ := h.ex
  have m3 : m ≤ 3 := (hk.num _ hm).2
  intro x hx
  rcases List.mem_append.mp hx with hx | hx
  · simp only [List.mem_cons, List.not_mem_nil, or_false] at hx
    rcases hx with rfl | rfl | rfl | rfl
    · exact wd_lit
    · exact wd_ww h.ww
    · exact wd_ww (hk.ww _ hm)
    · exact wd_num g0 (by omega)
  · obtain ⟨n, hn1, hn2⟩ := List.mem_flatMap.mp hx
    exact ndW_wd (hn n hn1) m3 hk.ww x hn2
theorem pageL_nl {ks : List (Str × Int)} {os : List Opn} (hk : KsOk ks) (ho : OsOk ks os) : ∀ l ∈ pageL ks os, 10 ∉ tl l := by
  intro l hl
  rcases List.mem_append.mp hl with hl | hl
  · obtain ⟨p, hp, rfl⟩ := List.mem_map.mp hl
    exact line_nl (kindW_wd hk hp)
  · obtain ⟨o, ho1, rfl⟩ := List.mem_map.mp hl
    exact line_nl (opW_wd hk (ho.each o ho1))
theorem pageL_ne {ks : List (Str × Int)} {os : List Opn} (hk : KsOk ks) : pageL ks os ≠ [] := by
  intro z
  have := List.append_eq_nil_iff.mp z
  exact hk.ne (List.map_eq_nil_iff.mp this.1)
/-- the page, split into lines -/
theorem split_pg {ks : List (Str × Int)} {os : List Opn} (hk : KsOk ks) (ho : OsOk ks os) : Txt.split (page ks os) nlS = pageL ks os := split_page (pageL_ne hk) (pageL_nl hk ho)
/-! a text tells its book -/
theorem ndW_inj {m m' : Int} {ks ks' : List (Str × Int)} {n n' : Nd} {r r' : List Str} (h : NdOk m ks n) (h' : NdOk m' ks' n') (m3 : m ≤ 3) (m3' : m' ≤ 3) (e : ndW n ++ r = ndW n' ++ r') : n = n' ∧ r = r' := by
  cases n <;> cases n'
  case part.part j j' =>
    obtain ⟨j0, j1⟩ := h
    obtain ⟨i0, i1⟩ := h'
    simp only [ndW, List.cons_append, List.nil_append, List.cons.injEq, true_and] at e
    exact ⟨by rw [num_inj j0 (by omega) i0 (by omega) e.1], e.2⟩
  case around.around c j c' j' =>
    obtain ⟨_, j0, j1⟩ := h
    obtain ⟨_, i0, i1⟩ := h'
    simp only [ndW, List.cons_append, List.nil_append, List.cons.injEq, true_and] at e
    exact ⟨by rw [e.1, num_inj j0 (by omega) i0 (by omega) e.2.1], e.2.2⟩
  case inside.inside j c j' c' =>
    obtain ⟨_, j0, j1⟩ := h
    obtain ⟨_, i0, i1⟩ := h'
    simp only [ndW, List.cons_append, List.nil_append, List.cons.injEq, true_and] at e
    exact ⟨by rw [e.2.1, num_inj j0 (by omega) i0 (by omega) e.1], e.2.2⟩
  all_goals
    simp only [ndW, List.cons_append, List.nil_append, List.cons.injEq] at e
    exact absurd e.1 (by decide +kernel)
theorem nds_inj {m m' : Int} {ks ks' : List (Str × Int)} (m3 : m ≤ 3) (m3' : m' ≤ 3) : ∀ {a b : List Nd}, (∀ n ∈ a, NdOk m ks n) → (∀ n ∈ b, NdOk m' ks' n) → a.flatMap ndW = b.flatMap ndW → a = b
  | [], [], _, _, _ => rfl
  | [], n :: b, _, _, e => by
    cases n <;> simp [List.flatMap_cons, ndW] at e
  | n :: a, [], _, _, e => by
    cases n <;> simp [List.flatMap_cons, ndW] at e
  | n :: a, n' :: b, ha, hb, e => by
    rw [List.flatMap_cons, List.flatMap_cons] at e
    obtain ⟨e1, e2⟩ := ndW_inj (ha n (List.mem_cons_self ..)) (hb n' (List.mem_cons_self ..)) m3 m3' e
    rw [e1, nds_inj m3 m3' (fun x hx => ha x (List.mem_cons_of_mem _ hx)) (fun x hx => hb x (List.mem_cons_of_mem _ hx)) e2]
theorem opW_inj {ks ks' : List (Str × Int)} (hk : KsOk ks) (hk' : KsOk ks') {o o' : Opn} (h : OpnOk ks o) (h' : OpnOk ks' o') (e : opW o = opW o') : o = o' := by
  obtain ⟨m, hm, g0, g1, _, hn⟩ := h.ex
  obtain ⟨m', hm', i0, i1, _, hn'⟩ := h'.ex
  have m3 : m ≤ 3 := (hk.num _ hm).2
  have m3' : m' ≤ 3 := (hk'.num _ hm').2
  obtain ⟨w, k, g, nn⟩ := o
  obtain ⟨w', k', g', nn'⟩ := o'
  simp only [opW, List.cons_append, List.nil_append, List.cons.injEq, true_and] at e
  obtain ⟨rfl, rfl, eg, en⟩ := e
  have e3 := num_inj g0 (show g < 4 by have : g < m := g1; omega) i0 (show g' < 4 by have : g' < m' := i1; omega) eg
  have e4 := nds_inj m3 m3' hn hn' en
  have e3 : g = g' := e3
  have e4 : nn = nn' := e4
  subst e3 e4
  rfl
theorem line_inj {a b : List Str} (ha : a ≠ []) (hb : b ≠ []) (wa : ∀ x ∈ a, Wd x) (wb : ∀ x ∈ b, Wd x) (e : lineOf a = lineOf b) : a = b := by
  rw [← split_line ha wa, ← split_line hb wb, e]
theorem pageL_inj {K1 K2 : List (Str × Int)} (h1 : KsOk K1) (h2 : KsOk K2) : ∀ {ks ks' : List (Str × Int)} {os os' : List Opn}, (∀ p ∈ ks, p ∈ K1) → (∀ p ∈ ks', p ∈ K2) → (∀ o ∈ os, OpnOk K1 o) → (∀ o ∈ os', OpnOk K2 o) → pageL ks os = pageL ks' os' → ks = ks' ∧ os = os'
  | [], [], os, os', _, _, a, b, e => by
    refine ⟨rfl, ?_⟩
    simp only [pageL, List.map_nil, List.nil_append] at e
    induction os generalizing os' with
    | nil =>
      cases os' with
      | nil => rfl
      | cons o r => cases e
    | cons o r ih =>
      cases os' with
      | nil => cases e
      | cons o' r' =>
        rw [List.map_cons, List.map_cons, List.cons.injEq] at e
        have oo := a o (List.mem_cons_self ..)
        have oo' := b o' (List.mem_cons_self ..)
        rw [opW_inj h1 h2 oo oo' (line_inj (by simp [opW]) (by simp [opW]) (opW_wd h1 oo) (opW_wd h2 oo') e.1), ih (fun x hx => a x (List.mem_cons_of_mem _ hx)) (os' := r') (fun x hx => b x (List.mem_cons_of_mem _ hx)) e.2]
  | [], p :: r, os, os', _, c, a, _, e => by
    cases os with
    | nil => cases e
    | cons o os =>
      simp only [pageL, List.map_nil, List.nil_append, List.map_cons, List.cons_append, List.cons.injEq] at e
      have := line_inj (by simp [opW]) (by simp [kindW]) (opW_wd h1 (a o (List.mem_cons_self ..))) (kindW_wd h2 (c p (List.mem_cons_self ..))) e.1
      simp only [opW, kindW, List.cons_append, List.cons.injEq] at this
      exact absurd this.1 (by decide +kernel)
  | p :: r, [], os, os', c, _, _, b, e => by
    cases os' with
    | nil => cases e
    | cons o os' =>
      simp only [pageL, List.map_nil, List.nil_append, List.map_cons, List.cons_append, List.cons.injEq] at e
      have := line_inj (by simp [kindW]) (by simp [opW]) (kindW_wd h1 (c p (List.mem_cons_self ..))) (opW_wd h2 (b o (List.mem_cons_self ..))) e.1
      simp only [opW, kindW, List.cons_append, List.cons.injEq] at this
      exact absurd this.1 (by decide +kernel)
  | p :: r, p' :: r', os, os', c, d, a, b, e => by
    simp only [pageL, List.map_cons, List.cons_append, List.cons.injEq] at e
    have hp := c p (List.mem_cons_self ..)
    have hp' := d p' (List.mem_cons_self ..)
    have n1 := h1.num p hp
    have n2 := h2.num p' hp'
    have := line_inj (by simp [kindW]) (by simp [kindW]) (kindW_wd h1 hp) (kindW_wd h2 hp') e.1
    simp only [kindW, List.cons.injEq, true_and, and_true] at this
    obtain ⟨pw, pn⟩ := p
    obtain ⟨qw, qn⟩ := p'
    obtain ⟨e1, e2⟩ := this
    have f1 : pw = qw := e1
    have f2 : pn = qn := num_inj (show 0 ≤ pn by have : 1 ≤ pn := n1.1; omega) (show pn < 4 by have : pn ≤ 3 := n1.2; omega) (show 0 ≤ qn by have : 1 ≤ qn := n2.1; omega) (show qn < 4 by have : qn ≤ 3 := n2.2; omega) e2
    subst f1
    subst f2
    obtain ⟨x, y⟩ := pageL_inj h1 h2 (ks := r) (ks' := r') (os := os) (os' := os') (fun x hx => c x (List.mem_cons_of_mem _ hx)) (fun x hx => d x (List.mem_cons_of_mem _ hx)) a b e.2
    rw [x, y]
    exact ⟨rfl, rfl⟩
/-- unlike books have unlike texts -/
theorem page_inj {ks ks' : List (Str × Int)} {os os' : List Opn} (h1 : KsOk ks) (h2 : KsOk ks') (a : OsOk ks os) (b : OsOk ks' os') (e : page ks os = page ks' os') : ks = ks' ∧ os = os' := by
  have := split_pg h1 a
  rw [e, split_pg h2 b] at this
  exact pageL_inj h1 h2 (fun _ h => h) (fun _ h => h) a.each b.each this.symm
end K06

set_option Elab.async false
set_option linter.all false
set_option maxRecDepth 100000
set_option maxHeartbeats 4000000
/-! The line of an opening. -/
namespace K06
open PySem PySem.Spec PyProof.Rows L2 Mine TL SkE StX
abbrev sOLine : Stmt := top 25
structure TxtO (mg : Str → Option Value) : Prop where
  str : mg "str" = none
theorem opW_len {ks : List (Str × Int)} {o : Opn} (h : OpnOk ks o) : (opW o).length ≤ 10 := by
  obtain ⟨m, hm, g0, g1, nl, hn⟩ := h.ex
  have : ∀ l : List Nd, (l.flatMap ndW).length ≤ 3 * l.length := fun l => by
    induction l with
    | nil => simp
    | cons n l ih =>
      rw [List.flatMap_cons, List.length_append, List.length_cons]
      cases n <;> simp only [ndW, List.length_cons, List.length_nil] <;> omega
  have := this o.nn
  simp only [opW, List.length_append, List.length_cons, List.length_nil]
  omega
theorem ww_l8 : ∀ x ∈ WW, x.length ≤ 8 := by decide +kernel
theorem num_l {j : Int} (h0 : 0 ≤ j) (h1 : j < 4) : (num j).length ≤ 8 := by
  have : j = 0 ∨ j = 1 ∨ j = 2 ∨ j = 3 := by omega
  rcases this with rfl | rfl | rfl | rfl <;> decide +kernel
theorem log_small {j : Int} (h0 : 0 ≤ j) (h1 : j < 4) : j.natAbs.log2 < 1920 := by
  have : j = 0 ∨ j = 1 ∨ j = 2 ∨ j = 3 := by omega
  rcases this with rfl | rfl | rfl | rfl <;> decide +kernel
theorem lit_l {x : Str} (h : x.length ≤ 8 := by decide +kernel) : x.length ≤ 8 := h
theorem sum_le {l : List Str} {c : Nat} (h : ∀ x ∈ l, x.length ≤ c) : (l.map (·.length)).sum ≤ c * l.length := by
  induction l with
  | nil => simp
  | cons x l ih =>
    have h1 := h x (List.mem_cons_self ..)
    have h2 := ih fun y hy => h y (List.mem_cons_of_mem _ hy)
    rw [List.map_cons, List.sum_cons, List.length_cons, Nat.mul_succ]
    omega
theorem ndW_l {m : Int} {ks : List (Str × Int)} {n : Nd} (h : NdOk m ks n) (h3 : m ≤ 3) (kw : ∀ p ∈ ks, p.1 ∈ WW) : ∀ x ∈ ndW n, x.length ≤ 8 := by
  intro x hx
  cases n with
  | part j =>
    obtain ⟨j0, j1⟩ := h
    simp only [ndW, List.mem_cons, List.not_mem_nil, or_false] at hx
    rcases hx with rfl | rfl
    · exact lit_l
    · exact num_l j0 (by omega)
  | around c j =>
    obtain ⟨c1, j0, j1⟩ := h
    simp only [ndW, List.mem_cons, List.not_mem_nil, or_false] at hx
    rcases hx with rfl | rfl | rfl
    · exact lit_l
    · exact ww_l8 _ (kw _ c1)
    · exact num_l j0 (by omega)
  | inside j c =>
    obtain ⟨c1, j0, j1⟩ := h
    simp only [ndW, List.mem_cons, List.not_mem_nil, or_false] at hx
    rcases hx with rfl | rfl | rfl
    · exact lit_l
    · exact num_l j0 (by omega)
    · exact ww_l8 _ (kw _ c1)
theorem opW_l {ks : List (Str × Int)} (hk : KsOk ks) {o : Opn} (h : OpnOk ks o) : ∀ x ∈ opW o, x.length ≤ 8 := by
  obtain ⟨m, hm, g0, g1, nl, hn⟩ := h.ex
  have m3 : m ≤ 3 := (hk.num _ hm).2
  intro x hx
  rcases List.mem_append.mp hx with hx | hx
  · simp only [List.mem_cons, List.not_mem_nil, or_false] at hx
    rcases hx with rfl | rfl | rfl | rfl
    · exact lit_l
    · exact ww_l8 _ h.ww
    · exact ww_l8 _ (hk.ww _ hm)
    · exact num_l g0 (by omega)
  · obtain ⟨n, hn1, hn2⟩ := List.mem_flatMap.mp hx
    exact ndW_l (hn n hn1) m3 hk.ww x hn2
/-- the values of a need and their words -/
theorem nd_words {m : Int} {ks : List (Str × Int)} {n : Nd} (h : NdOk m ks n) (h3 : m ≤ 3) {j : Nat} {v : V} (e : (ndV n)[j]? = some v) : ∃ y, (ndW n)[j]? = some y ∧ ((∃ i : Int, v = .int i ∧ y = num i ∧ 0 ≤ i ∧ i < 4) ∨ v = .str y) := by
  cases n with
  | part i =>
    obtain ⟨i0, i1⟩ := h
    match j, e with
    | 0, e => cases e; exact ⟨_, rfl, .inr rfl⟩
    | 1, e => cases e; exact ⟨_, rfl, .inl ⟨i, rfl, rfl, i0, by omega⟩⟩
  | around c i =>
    obtain ⟨_, i0, i1⟩ := h
    match j, e with
    | 0, e => cases e; exact ⟨_, rfl, .inr rfl⟩
    | 1, e => cases e; exact ⟨_, rfl, .inr rfl⟩
    | 2, e => cases e; exact ⟨_, rfl, .inl ⟨i, rfl, rfl, i0, by omega⟩⟩
  | inside i c =>
    obtain ⟨_, i0, i1⟩ := h
    match j, e with
    | 0, e => cases e; exact ⟨_, rfl, .inr rfl⟩
    | 1, e => cases e; exact ⟨_, rfl, .inl ⟨i, rfl, rfl, i0, by omega⟩⟩
    | 2, e => cases e; exact ⟨_, rfl, .inr rfl⟩
theorem ndW_n {n : Nd} : (ndW n).length = (ndV n).length := by cases n <;> rfl
theorem yes_if {σ : L2.St} {H : Hp} {A B : Hp → Prop} (h : A H) : tYes σ H (fun b H3 => if b = true then A H3 else B H3) := by
  unfold tYes
  show (if true = true then A H else B H)
  rw [if_pos rfl]
  exact h
def spOLine (K : PySem.W.Frag) : Sp := fun vs H Q _ => ∃ (a : Addr) (o : Opn) (ks : List (Str × Int)), vs = [.ref a] ∧ OpnAt K H a o ∧ OpnOk ks o ∧ KsOk ks ∧ ∀ H', Same H H' → Q (.str (lineOf (opW o))) H'
section
variable {P : Program} {w : World} {K : PySem.W.Frag} {mg : Str → Option Value} {base : Heap}
theorem scOLine : FnScope ["opening", "word", "kind", "given", "needs", "told", "need", "part"] ["opening"] (defScope sOLine) := ⟨rfl, rfl, rfl, by decide +kernel, rfl, by decide +kernel, by decide +kernel⟩
theorem ok_oline {f : Addr} {fd : FuncData} (F : Fun K "_opening_line" "_opening_line" sOLine f fd) (T : TxtO mg) : FnOk P w K mg base CX0 1 f fd ["opening"] (spOLine K) := by
  refine F.ok scOLine (fun vs H Q E h => ?_) (fun cdv A outer s H vs Q E hr h => ?_)
  · obtain ⟨_, _, _, rfl, _⟩ := h
    rfl
  · obtain ⟨a, o, ks, rfl, ⟨b, bs, ha, hb, hp⟩, ook, kok, k⟩ := h
    refine ⟨_, pss_cons (ps_asg (pv 0) (pg_tup rfl (pgs_cons (pg_name (i := 1) scOLine.nd rfl (.inl rfl)) (pgs_cons (pg_name (i := 2) scOLine.nd rfl (.inl rfl)) (pgs_cons (pg_name (i := 3) scOLine.nd rfl (.inl rfl)) (pgs_cons (pg_name (i := 4) scOLine.nd rfl (.inl rfl)) pgs_nil))))))
      (pss_cons (ps_setLc2 (i := 5) (own := [("need", 6), ("part", 7)]) (vs1 := [7]) (g := gName 6) (g1 := gName 7) (tt := tYes) (tt1 := tYes) rfl scOLine.nd rfl rfl (sw_true rfl rfl rfl (by decide +kernel)) (pi_tup (pv 4))
        (blkOk_by (own := [("need", 6), ("part", 7)]) (N := ["opening", "word", "kind", "given", "needs", "told", "need", "part"]) (sc := defScope sOLine) (by decide +kernel)) (by decide)
        (fun _ _ _ _ _ => pg_name (i := 6) scOLine.nd rfl (Or.inl rfl)) (fun _ _ _ _ _ => pts_nil) (fun _ _ _ _ _ => (show PI _ _ _ (iTup K (tVar 6)) from pi_tup (pv 6))) (fun _ _ _ _ _ => pg_name (i := 7) scOLine.nd rfl (Or.inl rfl)) (fun _ _ _ _ _ => pts_nil)
        (fun _ _ _ _ _ => pe_callTy (CallR.or call_str_int call_str_str) (by rfl) T.str (by decide +kernel) (pa_cons (pv 7) pa_nil)))
      (pss_one (ps_ret (pe_m1 PySem.F.slot_str_join PySem.F.type_str_join mt_join pe_str (pe_lst (pa_cons pe_str (pa_cons (pv 1) (pa_cons (pv 2) (pa_cons (pe_callTy call_str_int (by rfl) T.str (by decide +kernel) (pa_cons (pv 3) pa_nil)) (pa_star (pv 5) pa_nil)))))))))), ?_⟩
    obtain ⟨m, hm, g0, g1, nl, hn⟩ := ook.ex
    have m3 : m ≤ 3 := (kok.num _ hm).2
    have wl := opW_len ook
    refine ⟨_, rfl, a, _, rfl, ha, rfl, _, _, rfl, _, _, rfl, _, _, rfl, _, _, rfl, rfl, ?_⟩
    refine ⟨_, rfl, b, rfl, ⟨_, hb⟩, fun D hD => ?_⟩
    have sD : ∀ {xs : List V}, Same H (upd H D (.lst xs)) := same_new same_rfl hD
    refine out_tup (K := K) (a := b) (xs := bs.map V.ref) (fun i H' => H' = upd H D (.lst (((o.nn.take i).flatMap ndW).map V.str))) rfl (fun i H' _ e => by rw [e]; exact sqT_same sD hb) ?_ ?_
    · rintro i x H1 hi rfl
      rw [List.getElem?_map] at hi
      obtain ⟨q, hq, rfl⟩ := Option.map_eq_some_iff.mp hi
      obtain ⟨n, hnn, hqn⟩ := paired_at hp hq
      have hnm := List.mem_of_getElem? hnn
      have hok := hn n hnm
      refine ⟨rfl, ?_⟩
      refine yes_if ?_
      refine ⟨_, rfl, q, rfl, ⟨_, sqT_same sD hqn⟩, ?_⟩
      have tot : ((o.nn.take i).flatMap ndW).length + (ndW n).length ≤ 10 := by
        have e1 : o.nn.take (i + 1) = o.nn.take i ++ [n] := by
          rw [List.take_add_one, hnn]
          rfl
        have e2 : ((o.nn.take (i + 1)).flatMap ndW).length ≤ (o.nn.flatMap ndW).length := by
          have := List.take_append_drop (i + 1) o.nn
          conv => rhs; rw [← this]
          rw [List.flatMap_append, List.length_append]
          omega
        rw [e1, List.flatMap_append, List.length_append] at e2
        have e3 : (o.nn.flatMap ndW).length ≤ (opW o).length := by
          unfold opW
          rw [List.length_append]
          omega
        simp only [List.flatMap_cons, List.flatMap_nil, List.append_nil] at e2
        omega
      refine in_tup (K := K) (a := q) (xs := ndV n) (D := D) (fun j H' => H' = upd H D (.lst (((o.nn.take i).flatMap ndW ++ (ndW n).take j).map V.str))) (by rw [List.take_zero, List.append_nil]) (fun j H' _ e => by rw [e]; exact sqT_same sD hqn) ?_ ?_
      · rintro j v H2 hj rfl
        obtain ⟨y, hy, hv⟩ := nd_words hok m3 hj
        have jl : j < (ndW n).length := (List.getElem?_eq_some_iff.mp hy).1
        refine ⟨rfl, ?_⟩
        refine yes_if ?_
        have fin : ∃ acc, upd H D (.lst (((o.nn.take i).flatMap ndW ++ (ndW n).take j).map V.str)) D = some (.lst acc) ∧ acc.length < sizeLine ∧
            upd (upd H D (.lst (((o.nn.take i).flatMap ndW ++ (ndW n).take j).map V.str))) D (.lst (acc ++ [.str y])) = upd H D (.lst (((o.nn.take i).flatMap ndW ++ (ndW n).take (j + 1)).map V.str)) := by
          refine ⟨_, upd_same, ?_, ?_⟩
          · rw [List.length_map, List.length_append, List.length_take, sizeLine_eq]
            omega
          · rw [upd_upd, List.take_add_one, hy]
            simp
        rcases hv with ⟨z, rfl, rfl, z0, z1⟩ | rfl
        · exact ⟨_, rfl, .inl ⟨z, rfl, log_small z0 z1, fin⟩⟩
        · exact ⟨_, rfl, .inr ⟨y, rfl, fin⟩⟩
      · rintro H2 rfl
        rw [← ndW_n, List.take_of_length_le (Nat.le_refl _), List.take_add_one, hnn, List.flatMap_append]
        simp
    · rintro H1 rfl
      have hl : (bs.map V.ref).length = o.nn.length := by rw [List.length_map]; exact hp.length
      rw [hl, List.take_of_length_le (Nat.le_refl _)]
      refine ⟨⟨_, rfl⟩, _, rfl, _, rfl, _, rfl, o.g, rfl, log_small g0 (by omega), _, rfl, D, _, rfl, .inr (SqL.of upd_same), (by
        simp only [List.length_cons, List.length_append, List.length_map, List.length_nil]
        rw [sizeLine_eq]
        simp only [opW, List.length_append, List.length_cons, List.length_nil] at wl
        omega), fun p hp1 => ?_⟩
      refine ⟨_, p, opW o, rfl, rfl, .inl (SqL.of ?_), ?_, k _ (same_new sD hp1)⟩
      · rw [upd_same]
        simp only [opW, List.map_append, List.map_cons, List.map_nil, List.append_nil, List.cons_append, List.nil_append]
        rfl
      · have h1 := sum_le (opW_l kok ook)
        have h2 : (PySem.Str.ofString " ").length = 1 := by decide +kernel
        rw [h2]
        omega
end
end K06

set_option Elab.async false
set_option linter.all false
set_option maxRecDepth 100000
set_option maxHeartbeats 4000000
/-! str(book). -/
namespace K06
open PySem PySem.Spec PyProof.Rows L2 Mine TL SkE StX
abbrev sStr : Stmt := inClass (top 16) 2
theorem kind_line (p : Str × Int) : Str.empty ++ PySem.Str.ofString "kind " ++ p.1 ++ PySem.Str.ofString " " ++ num p.2 = lineOf (kindW p) := by
  refine ext_tl ?_
  have e : tl (Str.empty) = [] := by decide +kernel
  have e1 : tl (PySem.Str.ofString "kind ") = tl (PySem.Str.ofString "kind") ++ tl spS := by decide +kernel
  have e2 : PySem.Str.ofString " " = spS := rfl
  unfold lineOf kindW
  rw [join_eq, tl_join]
  rw [e2]
  simp only [tl_append, e, e1, List.map_cons, List.map_nil, joinL, List.nil_append, List.append_assoc]
theorem kind_line_l {p : Str × Int} (h : p.1.length ≤ 8) (h2 : (num p.2).length ≤ 8) : (Str.empty ++ PySem.Str.ofString "kind " ++ p.1 ++ PySem.Str.ofString " " ++ num p.2).length ≤ 30 := by
  have e0 : Str.empty.length = 0 := by decide +kernel
  have e1 : (PySem.Str.ofString "kind ").length = 5 := by decide +kernel
  have e2 : (PySem.Str.ofString " ").length = 1 := by decide +kernel
  rw [strLen_append, strLen_append, strLen_append, strLen_append]
  omega
theorem line_l {ws : List Str} (h : ∀ x ∈ ws, x.length ≤ 8) (hl : ws.length ≤ 10) : (lineOf ws).length ≤ 100 := by
  have h1 : (Str.join spS ws).length ≤ (ws.map (·.length)).sum + ws.length * spS.length := StrLaws.join_length_le spS ws
  have h2 := sum_le h
  have e2 : spS.length = 1 := by decide +kernel
  unfold lineOf
  rw [join_eq]
  rw [e2] at h1
  omega
theorem page_l {ks : List (Str × Int)} {os : List Opn} (hk : KsOk ks) (ho : OsOk ks os) : (∀ l ∈ pageL ks os, l.length ≤ 100) ∧ (pageL ks os).length ≤ 40 := by
  constructor
  · intro l hl
    rcases List.mem_append.mp hl with hl | hl
    · obtain ⟨p, hp, rfl⟩ := List.mem_map.mp hl
      have n := hk.num p hp
      refine line_l (fun x hx => ?_) (by simp [kindW])
      simp only [kindW, List.mem_cons, List.not_mem_nil, or_false] at hx
      rcases hx with rfl | rfl | rfl
      · exact lit_l
      · exact ww_l8 _ (hk.ww p hp)
      · exact num_l (by omega) (by omega)
    · obtain ⟨o, ho1, rfl⟩ := List.mem_map.mp hl
      exact line_l (opW_l hk (ho.each o ho1)) (opW_len (ho.each o ho1))
  · have := hk.len
    have := ho.len
    simp only [pageL, List.length_append, List.length_map]
    omega
def spStr (K : PySem.W.Frag) (C : Addr) : Sp := fun vs H Q _ => ∃ (x dx kk oo : Addr) (ps as : List Addr) (ks : List (Str × Int)) (os : List Opn), vs = [.ref x] ∧ H x = some (.ins C dx (fsB kk oo)) ∧ KindsAt K H kk ps ks ∧ KsOk ks ∧ OpnsAt K H oo as os ∧ OsOk ks os ∧
  ∀ H', Same H H' → Q (.str (page ks os)) H'
structure TxtSt (K : PySem.W.Frag) (mg : Str → Option Value) (C fL : Addr) : Prop where
  cl : Cls K C
  nK : NoAttr K C "kinds"
  nO : NoAttr K C "openings"
  gL : mg "_opening_line" = some (.ref fL)
  kL : PySem.W.keepIn K (.ref fL) = true
abbrev nStr : List Str := ["self", "kinds", "openings", "kind", "many", "opening"]
section
variable {P : Program} {w : World} {K : PySem.W.Frag} {mg : Str → Option Value} {base : Heap}
theorem scStr : FnScope nStr ["self"] (defScope sStr) := ⟨rfl, rfl, rfl, by decide +kernel, rfl, by decide +kernel, by decide +kernel⟩
theorem ok_str {f C fL : Addr} {fd dL : FuncData} (F : Fun K "__str__" "Book.__str__" sStr f fd) (T : TxtSt K mg C fL) (G : FnOk P w K mg base CX0 1 fL dL ["opening"] (spOLine K)) (bG : Binds K dL ["opening"] []) : FnOk P w K mg base CX0 2 f fd ["self"] (spStr K C) := by
  refine F.ok scStr (fun vs H Q E h => ?_) (fun cdv A outer s H vs Q E hr h => ?_)
  · obtain ⟨_, _, _, _, _, _, _, _, rfl, _⟩ := h
    rfl
  · obtain ⟨x, dx, kk, oo, ps, as, ks, os, rfl, hx, hk, kok, hO, ook, k⟩ := h
    refine ⟨_, pss_cons (ps_setLc (i := 1) (own := [("kind", 3), ("many", 4)]) (g := gTup K 2 (gCons (gName 3) (gCons (gName 4) gNil))) (tt := tYes) rfl scStr.nd rfl rfl (sw_true rfl rfl rfl (by decide +kernel)) (pi_tup (pe_fld (pv 0) rfl))
        (blkOk_by (own := [("kind", 3), ("many", 4)]) (N := nStr) (sc := defScope sStr) (by decide +kernel))
        (fun _ _ _ _ _ => pg_tup rfl (pgs_cons (pg_name (i := 3) scStr.nd rfl (Or.inl rfl)) (pgs_cons (pg_name (i := 4) scStr.nd rfl (Or.inl rfl)) pgs_nil))) (fun _ _ _ _ _ => pts_nil)
        (fun _ _ _ _ _ => pe_joined (PJ.cons pe_str (PJ.cons (pe_fmt (pv 3)) (PJ.cons pe_str (PJ.cons (pe_fmt (pv 4)) PJ.nil))))))
      (pss_cons (ps_setLc (i := 2) (own := [("opening", 5)]) (g := gName 5) (tt := tYes) rfl scStr.nd rfl rfl (sw_true rfl rfl rfl (by decide +kernel)) (pi_tup (pe_fld (pv 0) rfl))
        (blkOk_by (own := [("opening", 5)]) (N := nStr) (sc := defScope sStr) (by decide +kernel))
        (fun _ _ _ _ _ => pg_name (i := 5) scStr.nd rfl (Or.inl rfl)) (fun _ _ _ _ _ => pts_nil) (fun _ _ _ _ _ => pe_call G hr rfl T.gL T.kL bG .nil pass0 (pa_cons (pv 5) pa_nil)))
      (pss_one (ps_ret (pe_m1 PySem.F.slot_str_join PySem.F.type_str_join mt_join pe_str (pe_lst (pa_star (pv 1) (pa_star (pv 2) pa_nil))))))), ?_⟩
    have hkl := hk.len
    have hol := hO.each.length
    have kl := kok.len
    have ol := ook.len
    refine ⟨_, rfl, x, C, dx, _, _, rfl, hx, T.cl, T.nK, rfl, kk, rfl, ⟨_, hk.at_.sq⟩, fun D hD => ?_⟩
    have sD : ∀ {xs : List V}, Same H (upd H D (.lst xs)) := same_new same_rfl hD
    refine lc_tup (K := K) (a := kk) (xs := ps.map V.ref) (g := gTup K 2 (gCons (gName 3) (gCons (gName 4) gNil))) (tt := tYes) (te := fun σ H Q => tJs [tC (.str (PySem.Str.ofString "kind ")), tFmt (tVar 3), tC (.str (PySem.Str.ofString " ")), tFmt (tVar 4)] Str.empty σ H fun out H1 => Q (.str out) H1) (fun i H' => H' = upd H D (.lst (((ks.take i).map fun p => lineOf (kindW p)).map V.str))) rfl (fun i H' _ e => by rw [e]; exact sqT_same sD hk.at_.sq) ?_ ?_
    · rintro i y H1 hi rfl
      rw [List.getElem?_map] at hi
      obtain ⟨a, ha, rfl⟩ := Option.map_eq_some_iff.mp hi
      obtain ⟨p, hp, hq⟩ := paired_at hk.each ha
      have hm := List.mem_of_getElem? hp
      have n := kok.num p hm
      have il : i < ks.length := (List.getElem?_eq_some_iff.mp hp).1
      have w8 := ww_l8 _ (kok.ww p hm)
      have n8 := num_l (j := p.2) (by omega) (by omega)
      have tot := kind_line_l w8 n8
      have e0 : Str.empty.length = 0 := by decide +kernel
      have e1 : (PySem.Str.ofString "kind ").length = 5 := by decide +kernel
      have e2 : (PySem.Str.ofString " ").length = 1 := by decide +kernel
      refine ⟨a, _, rfl, sqT_same sD hq, rfl, _, _, rfl, _, _, rfl, rfl, rfl, ?_⟩
      refine yes_if ?_
      refine ⟨_, rfl, (by rw [strLen_append, sizeLine_eq]; omega), _, rfl, .inl ⟨p.1, rfl, (by rw [sizeLine_eq]; omega), _, rfl, (by rw [strLen_append, strLen_append, sizeLine_eq]; omega), _, rfl, (by rw [strLen_append, strLen_append, strLen_append, sizeLine_eq]; omega), _, rfl, .inr ⟨p.2, rfl, log_small (by omega) (by omega), _, rfl, ?_⟩⟩⟩
      refine ⟨(by show (Str.empty ++ PySem.Str.ofString "kind " ++ p.1 ++ PySem.Str.ofString " " ++ num p.2).length ≤ sizeLine; rw [sizeLine_eq]; omega), _, upd_same, (by rw [List.length_map, List.length_map, List.length_take, sizeLine_eq]; omega), ?_⟩
      rw [upd_upd, List.take_add_one, hp]
      show upd H D (.lst (_ ++ [.str (Str.empty ++ PySem.Str.ofString "kind " ++ p.1 ++ PySem.Str.ofString " " ++ num p.2)])) = _
      rw [kind_line]
      simp
    · rintro H1 rfl
      rw [List.length_map, hkl, List.take_of_length_le (Nat.le_refl _)]
      have dD : upd H D (.lst ((ks.map fun p => lineOf (kindW p)).map V.str)) D = some (.lst ((ks.map fun p => lineOf (kindW p)).map V.str)) := upd_same
      have hO1 := hO.same (sD (xs := (ks.map fun p => lineOf (kindW p)).map V.str))
      have hx1 := (sD (xs := (ks.map fun p => lineOf (kindW p)).map V.str)) _ _ hx
      have sD1 := sD (xs := (ks.map fun p => lineOf (kindW p)).map V.str)
      show Ends.nx _ _ (upd H D (.lst ((ks.map fun p => lineOf (kindW p)).map V.str)))
      generalize upd H D (.lst ((ks.map fun p => lineOf (kindW p)).map V.str)) = G1 at dD hO1 hx1 sD1
      refine ⟨_, rfl, x, C, dx, _, _, rfl, hx1, T.cl, T.nO, rfl, oo, rfl, ⟨_, hO1.at_⟩, fun E1 hE => ?_⟩
      have nDE : D ≠ E1 := ne_of_none dD hE
      refine lc_tup (K := K) (a := oo) (xs := as.map V.ref) (fun i H' => H' E1 = some (.lst (((os.take i).map fun o => lineOf (opW o)).map V.str)) ∧ Same G1 H') ⟨upd_same, same_new same_rfl hE⟩ (fun i H' _ e => sqT_same e.2 hO1.at_) ?_ ?_
      · rintro i y H2 hi ⟨e1, s1⟩
        rw [List.getElem?_map] at hi
        obtain ⟨a, ha, rfl⟩ := Option.map_eq_some_iff.mp hi
        obtain ⟨o, ho, hq⟩ := paired_at hO1.each ha
        have il : i < os.length := (List.getElem?_eq_some_iff.mp ho).1
        refine ⟨rfl, ?_⟩
        refine yes_if ?_
        refine ⟨_, rfl, a, o, ks, rfl, OpnAt.same s1 hq, ook.each o (List.mem_of_getElem? ho), kok, fun H3 s3 => ⟨_, s3 _ _ e1, ?_, ?_, ?_⟩⟩
        · rw [List.length_map, List.length_map, List.length_take, sizeLine_eq]
          omega
        · rw [upd_same, List.take_add_one, ho]
          simp
        · exact fun b1 o1 e => (upd_ne (ne_of_none e hE)).trans (s3 _ _ (s1 _ _ e))
      · rintro H2 ⟨e1, s1⟩
        rw [List.length_map, hol, List.take_of_length_le (Nat.le_refl _)] at e1
        obtain ⟨pl1, pl2⟩ := page_l kok ook
        refine ⟨⟨_, rfl⟩, _, rfl, D, _, rfl, .inr (SqL.of (s1 _ _ dD)), _, rfl, E1, _, rfl, .inr (SqL.of e1), (by
          simp only [List.length_append, List.length_map, List.append_nil, List.length_nil]
          rw [sizeLine_eq]
          omega), fun q hq => ?_⟩
        refine ⟨_, q, pageL ks os, rfl, rfl, .inl (SqL.of ?_), ?_, k _ (same_tr sD1 (same_new s1 hq))⟩
        · rw [upd_same]
          simp [pageL]
        · have h1 := sum_le pl1
          have h2 : (PySem.Str.ofString "\n").length = 1 := by decide +kernel
          rw [h2]
          omega
end
end K06

set_option Elab.async false
set_option linter.all false
set_option maxRecDepth 100000
set_option maxHeartbeats 4000000
/-! == of books. -/
namespace K06
open PySem PySem.Spec PyProof.Rows L2 Mine TL SkE StX
abbrev sEq : Stmt := inClass (top 16) 1
theorem kd_dp {K : PySem.W.Frag} {H : Hp} : ∀ {ps : List Addr} {ks : List (Str × Int)}, Paired (fun a p => SqT K H a [.str p.1, .int p.2]) ps ks → DpAll K H (ps.map V.ref) (ks.map kD)
  | _, _, .nil => .nil
  | _, _, .cons h r => .cons (.tup h (.cons (.str _) (.cons (.int _) .nil))) (kd_dp r)
theorem nd_dp {K : PySem.W.Frag} {H : Hp} {x : Addr} {n : Nd} (h : SqT K H x (ndV n)) : Dp K H (.ref x) (ndD n) := by
  cases n with
  | part j => exact .tup h (.cons (.str _) (.cons (.int _) .nil))
  | around c j => exact .tup h (.cons (.str _) (.cons (.str _) (.cons (.int _) .nil)))
  | inside j c => exact .tup h (.cons (.str _) (.cons (.int _) (.cons (.str _) .nil)))
theorem nds_dp {K : PySem.W.Frag} {H : Hp} : ∀ {bs : List Addr} {nn : List Nd}, Paired (fun x n => SqT K H x (ndV n)) bs nn → DpAll K H (bs.map V.ref) (nn.map ndD)
  | _, _, .nil => .nil
  | _, _, .cons h r => .cons (nd_dp h) (nds_dp r)
theorem ops_dp {K : PySem.W.Frag} {H : Hp} : ∀ {as : List Addr} {os : List Opn}, Paired (OpnAt K H) as os → DpAll K H (as.map V.ref) (os.map opD)
  | _, _, .nil => .nil
  | _, _, .cons ⟨b, bs, h1, h2, h3⟩ r => .cons (.tup h1 (.cons (.str _) (.cons (.str _) (.cons (.int _) (.cons (.tup h2 (nds_dp h3)) .nil))))) (ops_dp r)
mutual
theorem eqv_me : ∀ d : PyData, d.canLay0 = true → PyData.eqv d d = true
  | .none, _ => by simp [PyData.eqv]
  | .bool b, _ => by simp [PyData.eqv]
  | .int i, _ => by simp [PyData.eqv]
  | .str x, _ => by simp [PyData.eqv]
  | .list ds, h => by
    simp only [PyData.canLay0] at h
    simp only [PyData.eqv]
    exact eqvs_me ds h
  | .tuple ds, h => by
    simp only [PyData.canLay0] at h
    simp only [PyData.eqv]
    exact eqvs_me ds h
  | .dict kvs, h => by simp [PyData.canLay0] at h
theorem eqvs_me : ∀ ds : List PyData, PyData.canLayAll0 ds = true → PyData.eqvAll ds ds = true
  | [], _ => by simp [PyData.eqvAll]
  | d :: ds, h => by
    have h' : d.canLay0 = true ∧ PyData.canLayAll0 ds = true := by simpa [PyData.canLayAll0] using h
    simp only [PyData.eqvAll, Bool.and_eq_true]
    exact ⟨eqv_me d h'.1, eqvs_me ds h'.2⟩
end
theorem ww_ok : ∀ x ∈ WW, PyData.strOk x = true := by decide +kernel
theorem ks_lay {ks : List (Str × Int)} (h : KsOk ks) : PyData.canLay0 (.tuple (ks.map kD)) = true := by
  simp only [PyData.canLay0]
  exact kds_lay ks fun p hp => ww_ok _ (h.ww p hp)
theorem ks_sh {ks : List (Str × Int)} (h : KsOk ks) : SeqAt.shaped (.tuple (ks.map kD)) = true := by
  show (PyData.canLay0 _ && decide (PyData.depth _ ≤ 64)) = true
  rw [Bool.and_eq_true]
  refine ⟨ks_lay h, decide_eq_true ?_⟩
  have := kds_dep ks
  simp only [PyData.depth]
  omega
theorem nd_lay {m : Int} {ks : List (Str × Int)} {n : Nd} (h : NdOk m ks n) (kw : ∀ p ∈ ks, p.1 ∈ WW) : PyData.canLay0 (ndD n) = true ∧ PyData.depth (ndD n) ≤ 1 := by
  cases n with
  | part j => exact ⟨by simp only [ndD, PyData.canLay0, PyData.canLayAll0, Bool.and_eq_true]; exact ⟨by decide +kernel, trivial, trivial⟩, by simp [ndD, PyData.depth, PyData.depthAll]⟩
  | around c j => exact ⟨by simp only [ndD, PyData.canLay0, PyData.canLayAll0, Bool.and_eq_true]; exact ⟨by decide +kernel, ww_ok _ (kw _ h.1), trivial, trivial⟩, by simp [ndD, PyData.depth, PyData.depthAll]⟩
  | inside j c => exact ⟨by simp only [ndD, PyData.canLay0, PyData.canLayAll0, Bool.and_eq_true]; exact ⟨by decide +kernel, trivial, ww_ok _ (kw _ h.1), trivial⟩, by simp [ndD, PyData.depth, PyData.depthAll]⟩
theorem all_lay {ds : List PyData} {n : Nat} (h : ∀ d ∈ ds, PyData.canLay0 d = true ∧ PyData.depth d ≤ n) : PyData.canLayAll0 ds = true ∧ PyData.depthAll ds ≤ n := by
  induction ds with
  | nil => simp [PyData.canLayAll0, PyData.depthAll]
  | cons d ds ih =>
    obtain ⟨a, b⟩ := h d (List.mem_cons_self ..)
    obtain ⟨c, e⟩ := ih fun x hx => h x (List.mem_cons_of_mem _ hx)
    refine ⟨by simp only [PyData.canLayAll0, a, c]; rfl, ?_⟩
    simp only [PyData.depthAll]
    omega
theorem op_lay {ks : List (Str × Int)} {o : Opn} (h : OpnOk ks o) (kw : ∀ p ∈ ks, p.1 ∈ WW) : PyData.canLay0 (opD o) = true ∧ PyData.depth (opD o) ≤ 3 := by
  obtain ⟨m, hm, _, _, _, hn⟩ := h.ex
  obtain ⟨a, b⟩ := all_lay (n := 1) (ds := o.nn.map ndD) fun d hd => by
    obtain ⟨n, hn1, rfl⟩ := List.mem_map.mp hd
    exact nd_lay (hn n hn1) kw
  refine ⟨?_, ?_⟩
  · simp only [opD, PyData.canLay0, PyData.canLayAll0, Bool.and_eq_true]
    exact ⟨ww_ok _ h.ww, ww_ok _ (kw _ hm), trivial, a, trivial⟩
  · simp only [opD, PyData.depth, PyData.depthAll]
    omega
theorem os_lay {ks : List (Str × Int)} {os : List Opn} (hk : KsOk ks) (h : OsOk ks os) : PyData.canLay0 (.tuple (os.map opD)) = true ∧ SeqAt.shaped (.tuple (os.map opD)) = true := by
  obtain ⟨a, b⟩ := all_lay (n := 3) (ds := os.map opD) fun d hd => by
    obtain ⟨o, ho, rfl⟩ := List.mem_map.mp hd
    exact op_lay (h.each o ho) hk.ww
  have l : PyData.canLay0 (.tuple (os.map opD)) = true := by
    simp only [PyData.canLay0]
    exact a
  refine ⟨l, ?_⟩
  show (PyData.canLay0 _ && decide (PyData.depth _ ≤ 64)) = true
  rw [Bool.and_eq_true]
  refine ⟨l, decide_eq_true ?_⟩
  simp only [PyData.depth]
  omega
/-- a book that stands -/
structure BkAt (K : PySem.W.Frag) (C : Addr) (H : Hp) (x : Addr) (ks : List (Str × Int)) (os : List Opn) : Prop where
  ex : ∃ (dx kk oo : Addr) (ps as : List Addr), H x = some (.ins C dx (fsB kk oo)) ∧ KindsAt K H kk ps ks ∧ OpnsAt K H oo as os
  kok : KsOk ks
  ook : OsOk ks os
theorem BkAt.same {K : PySem.W.Frag} {C : Addr} {H H' : Hp} {x : Addr} {ks : List (Str × Int)} {os : List Opn} (b : BkAt K C H x ks os) (k : Same H H') : BkAt K C H' x ks os :=
  let ⟨dx, kk, oo, ps, as, h1, h2, h3⟩ := b.ex
  ⟨⟨dx, kk, oo, ps, as, k _ _ h1, h2.same k, h3.same k⟩, b.kok, b.ook⟩
def Alike (K : PySem.W.Frag) (C : Addr) (a b : Addr) (H : Hp) : Prop := ∃ ks os, BkAt K C H a ks os ∧ BkAt K C H b ks os
/-- what the class must have to be asked for -/
structure TxtEq (K : PySem.W.Frag) (mg : Str → Option Value) (C : Addr) : Prop where
  cl : Cls K C
  nK : NoAttr K C "kinds"
  nO : NoAttr K C "openings"
  isi : mg "isinstance" = none
  gB : mg "Book" = some (.ref C)
  ha : PySem.W.findIn K (.ref C) "__class__" = some (some (.builtin "object.__class__"))
  hn : PySem.W.specialIn K (.builtin "object.__class__") "__get__" = some (some (.builtin "getset_descriptor.__get__"))
  ht : PySem.W.takesIn K (.builtin "object.__class__") = some true
  hm : PySem.W.mroIn K C (.type "object") = some true
theorem kit_me {K : PySem.W.Frag} {C : Addr} : PySem.W.kitOne K (.ref C) (.ref C) = some true := by
  unfold PySem.W.kitOne
  rw [if_pos (beq_self_eq_true _)]
section
variable {P : Program} {w : World} {K : PySem.W.Frag} {mg : Str → Option Value} {base : Heap}
theorem scEq : FnScope ["self", "other"] ["self", "other"] (defScope sEq) := ⟨rfl, rfl, rfl, by decide +kernel, rfl, by decide +kernel, by decide +kernel⟩
theorem ok_eq {f C : Addr} {fd : FuncData} (F : Fun K "__eq__" "Book.__eq__" sEq f fd) (T : TxtEq K mg C) : FnOk P w K mg base CX0 1 f fd ["self", "other"] (spEq (Alike K C)) := by
  refine F.ok scEq (fun vs H Q E h => ?_) (fun cdv A outer s H vs Q E hr h => ?_)
  · obtain ⟨_, _, rfl, _⟩ := h
    rfl
  · obtain ⟨a, b, rfl, ⟨ks, os, A1, B1⟩, k⟩ := h
    obtain ⟨dx, kk, oo, ps, as, ha, hk, hO⟩ := A1.ex
    obtain ⟨dy, kk', oo', ps', as', hb, hk', hO'⟩ := B1.ex
    refine ⟨_, pss_one (ps_ret (pe_and (pe_callB call_isi (by rfl) T.isi (by decide +kernel) (pa_cons (pv 1) (pa_cons (pe_glob (v := .ref C) rfl T.gB rfl) pa_nil)))
      (pe_and (pe_cmpR (op_eqD hr.units) (pe_fld (pv 0) rfl) (pe_fld (pv 1) rfl) (nomark _)) (pe_one (pe_cmpR (op_eqD hr.units) (pe_fld (pv 0) rfl) (pe_fld (pv 1) rfl) (nomark _)))))), ?_⟩
    have e1 := eqv_me _ (ks_lay A1.kok)
    obtain ⟨ol, osh⟩ := os_lay A1.kok A1.ook
    have e2 := eqv_me _ ol
    refine ⟨_, rfl, _, _, _, _, true, rfl, .own C, .base (.ins hb T.cl T.ha T.hn T.ht T.hm), kit_me, _, rfl, ite2 (fun _ => ?_) (fun z => absurd rfl z)⟩
    refine ⟨_, rfl, a, C, dx, _, _, rfl, ha, T.cl, T.nK, rfl, _, rfl, b, C, dy, _, _, rfl, hb, T.cl, T.nK, rfl, _, _, .tup hk.at_.sq (kd_dp hk.each), .tup hk'.at_.sq (kd_dp hk'.each), ks_sh A1.kok, ks_sh A1.kok, _, rfl, ite2 (fun _ => ?_) (fun z => absurd e1 z)⟩
    refine ⟨_, rfl, a, C, dx, _, _, rfl, ha, T.cl, T.nO, rfl, _, rfl, b, C, dy, _, _, rfl, hb, T.cl, T.nO, rfl, _, _, .tup hO.at_ (ops_dp hO.each), .tup hO'.at_ (ops_dp hO'.each), osh, osh, ?_⟩
    rw [e2]
    exact k _ fun _ _ e => e
end
end K06

set_option Elab.async false
set_option linter.all false
set_option maxRecDepth 100000
set_option maxHeartbeats 4000000
/-! The lines of a book as the law writes them. -/
namespace K06
open PySem PySem.Spec PyProof.Rows L2 Mine TL SkE StX
abbrev sPage : Stmt := top 35
theorem kind_line2 (p : Str × Int) : PySem.Str.ofString "kind " ++ p.1 ++ PySem.Str.ofString " " ++ num p.2 = lineOf (kindW p) := by
  refine ext_tl ?_
  rw [← kind_line p]
  have e : tl (Str.empty) = [] := by decide +kernel
  simp only [tl_append, e, List.nil_append]
def spPage (K : PySem.W.Frag) : Sp := fun vs H Q _ => ∃ (kk oo : Addr) (ps as : List Addr) (ks : List (Str × Int)) (os : List Opn), vs = [.ref kk, .ref oo] ∧ KindsAt K H kk ps ks ∧ KsOk ks ∧ OpnsAt K H oo as os ∧ OsOk ks os ∧
  ∀ p H', Same H H' → H' p = some (.lst ((pageL ks os).map V.str)) → Q (.ref p) H'
abbrev nPage : List Str := ["_law_makes", "_law_taking", "_law_lines", "_law_word", "_law_many", "_law_opening_word", "_law_given", "_law_needs", "_law_lane", "_law_need_here", "_law_item"]
section
variable {P : Program} {w : World} {K : PySem.W.Frag} {mg : Str → Option Value} {base : Heap}
theorem scPage : FnScope nPage ["_law_makes", "_law_taking"] (defScope sPage) := ⟨rfl, rfl, rfl, by decide +kernel, rfl, by decide +kernel, by decide +kernel⟩
theorem ok_page {f : Addr} {fd : FuncData} (F : Fun K "_law_page" "_law_page" sPage f fd) (T : TxtO mg) : FnOk P w K mg base CX0 1 f fd ["_law_makes", "_law_taking"] (spPage K) := by
  refine F.ok scPage (fun vs H Q E h => ?_) (fun cdv A outer s H vs Q E hr h => ?_)
  · obtain ⟨_, _, _, _, _, _, rfl, _⟩ := h
    rfl
  · obtain ⟨kk, oo, ps, as, ks, os, rfl, hk, kok, hO, ook, k⟩ := h
    refine ⟨_, pss_cons (ps_setLc (i := 2) (own := [("_law_word", 3), ("_law_many", 4)]) (g := gTup K 2 (gCons (gName 3) (gCons (gName 4) gNil))) (tt := tYes) rfl scPage.nd rfl rfl (sw_true rfl rfl rfl (by decide +kernel)) (pi_tup (pv 0))
        (blkOk_by (own := [("_law_word", 3), ("_law_many", 4)]) (N := nPage) (sc := defScope sPage) (by decide +kernel))
        (fun _ _ _ _ _ => pg_tup rfl (pgs_cons (pg_name (i := 3) scPage.nd rfl (Or.inl rfl)) (pgs_cons (pg_name (i := 4) scPage.nd rfl (Or.inl rfl)) pgs_nil))) (fun _ _ _ _ _ => pts_nil)
        (fun _ _ _ _ _ => pe_op op_add_str (pe_op op_add_str (pe_op op_add_str pe_str (pv 3)) pe_str) (pe_callTy call_str_int (by rfl) T.str (by decide +kernel) (pa_cons (pv 4) pa_nil))))
      (pss_cons (ps_for PassesOwn.never rfl (pi_tup (pv 1)) (pg_tup rfl (pgs_cons (pg_name (i := 5) scPage.nd rfl (.inl rfl)) (pgs_cons (pg_name (i := 3) scPage.nd rfl (.inl rfl)) (pgs_cons (pg_name (i := 6) scPage.nd rfl (.inl rfl)) (pgs_cons (pg_name (i := 7) scPage.nd rfl (.inl rfl)) pgs_nil)))))
        (pss_cons (ps_set (i := 8) scPage.nd rfl (.inl rfl) (pe_lst (pa_cons pe_str (pa_cons (pv 5) (pa_cons (pv 3) (pa_cons (pe_callTy call_str_int (by rfl) T.str (by decide +kernel) (pa_cons (pv 6) pa_nil)) pa_nil))))))
        (pss_cons (ps_for PassesOwn.never rfl (pi_tup (pv 7)) (pg_name (i := 9) scPage.nd rfl (.inl rfl))
          (pss_one (ps_set (i := 8) scPage.nd rfl (.inl rfl) (pe_op op_cat (pv 8) (pe_lc (own := [("_law_item", 10)]) (g := gName 10) (tt := tYes) rfl scPage.nd (pi_tup (pv 9))
            (blkOk_by (own := [("_law_item", 10)]) (N := nPage) (sc := defScope sPage) (by decide +kernel))
            (fun _ _ _ _ _ => pg_name (i := 10) scPage.nd rfl (Or.inl rfl)) (fun _ _ _ _ _ => pts_nil) (fun _ _ _ _ _ => pe_callTy (CallR.or call_str_int call_str_str) (by rfl) T.str (by decide +kernel) (pa_cons (pv 10) pa_nil)))))))
        (pss_one (ps_expr (pe_bm PySem.F.plainAttrs_list PySem.F.slot_list_append PySem.F.type_list_append mt_append (pv 2) (pa_cons (pe_m1 PySem.F.slot_str_join PySem.F.type_str_join mt_join pe_str (pv 8)) pa_nil)))))))
      (pss_one (ps_ret (pv 2)))), ?_⟩
    have hkl := hk.len
    have hol := hO.each.length
    have kl := kok.len
    have ol := ook.len
    refine ⟨_, rfl, kk, rfl, ⟨_, hk.at_.sq⟩, fun D hD => ?_⟩
    have sD : ∀ {xs : List V}, Same H (upd H D (.lst xs)) := same_new same_rfl hD
    refine lc_tup (K := K) (a := kk) (xs := ps.map V.ref) (fun i H' => H' = upd H D (.lst (((ks.take i).map fun p => lineOf (kindW p)).map V.str))) rfl (fun i H' _ e => by rw [e]; exact sqT_same sD hk.at_.sq) ?_ ?_
    · rintro i y H1 hi rfl
      rw [List.getElem?_map] at hi
      obtain ⟨a, ha, rfl⟩ := Option.map_eq_some_iff.mp hi
      obtain ⟨p, hp, hq⟩ := paired_at hk.each ha
      have hm := List.mem_of_getElem? hp
      have n := kok.num p hm
      have il : i < ks.length := (List.getElem?_eq_some_iff.mp hp).1
      have w8 := ww_l8 _ (kok.ww p hm)
      have n8 := num_l (j := p.2) (by omega) (by omega)
      have e1 : (PySem.Str.ofString "kind ").length = 5 := by decide +kernel
      have e2 : (PySem.Str.ofString " ").length = 1 := by decide +kernel
      have n8' : (PySem.Str.ofString (toString p.2)).length ≤ 8 := n8
      refine ⟨a, _, rfl, sqT_same sD hq, rfl, _, _, rfl, _, _, rfl, rfl, rfl, ?_⟩
      refine yes_if ?_
      refine ⟨_, rfl, _, _, rfl, rfl, (by rw [sizeLine_eq]; omega), _, _, rfl, rfl, (by rw [strLen_append, sizeLine_eq]; omega), _, rfl, p.2, rfl, log_small (by omega) (by omega), _, _, rfl, rfl, (by rw [strLen_append, strLen_append, sizeLine_eq]; omega), ?_⟩
      refine ⟨_, upd_same, (by rw [List.length_map, List.length_map, List.length_take, sizeLine_eq]; omega), ?_⟩
      rw [upd_upd, List.take_add_one, hp]
      show upd H D (.lst (_ ++ [.str (PySem.Str.ofString "kind " ++ p.1 ++ PySem.Str.ofString " " ++ num p.2)])) = _
      rw [kind_line2]
      simp
    · rintro H1 rfl
      rw [List.length_map, hkl, List.take_of_length_le (Nat.le_refl _)]
      have dD : upd H D (.lst ((ks.map fun p => lineOf (kindW p)).map V.str)) D = some (.lst ((ks.map fun p => lineOf (kindW p)).map V.str)) := upd_same
      have sD1 := sD (xs := (ks.map fun p => lineOf (kindW p)).map V.str)
      show Ends.nx _ _ (upd H D (.lst ((ks.map fun p => lineOf (kindW p)).map V.str)))
      generalize upd H D (.lst ((ks.map fun p => lineOf (kindW p)).map V.str)) = G1 at dD sD1
      refine ⟨_, rfl, oo, rfl, ⟨_, sqT_same sD1 hO.at_⟩, ?_⟩
      have bl : ∀ i : Nat, ((ks.map fun p => lineOf (kindW p)) ++ (os.take i).map fun o => lineOf (opW o)).length ≤ 40 := fun i => by
        rw [List.length_append, List.length_map, List.length_map, List.length_take]
        omega
      refine for_tup (K := K) (a := oo) (xs := as.map V.ref) (fun i σ H' => ∃ o3 o4 o5 o6 o7 o8 o9 o10 : Option V, σ = [some (.ref kk), some (.ref oo), some (.ref D), o3, o4, o5, o6, o7, o8, o9, o10] ∧ H' D = some (.lst (((ks.map fun p => lineOf (kindW p)) ++ (os.take i).map fun o => lineOf (opW o)).map V.str)) ∧ Same H H')
        ⟨_, _, _, _, _, _, _, _, rfl, by rw [List.take_zero, List.map_nil, List.append_nil]; exact dD, sD1⟩ (fun i σ H' _ ⟨_, _, _, _, _, _, _, _, _, _, z⟩ => sqT_same z hO.at_) ?_ ?_
      · rintro i y σ H2 hi ⟨o3, o4, o5, o6, o7, o8, o9, o10, rfl, eD, s2⟩
        rw [List.getElem?_map] at hi
        obtain ⟨a, ha, rfl⟩ := Option.map_eq_some_iff.mp hi
        obtain ⟨o, ho, b, bs, hq, hb, hp⟩ := paired_at hO.each ha
        have il : i < os.length := (List.getElem?_eq_some_iff.mp ho).1
        have oo1 := ook.each o (List.mem_of_getElem? ho)
        have wl := opW_len oo1
        obtain ⟨m, hm, g0, g1, nl, hn⟩ := oo1.ex
        have m3 : m ≤ 3 := (kok.num _ hm).2
        refine ⟨a, _, rfl, sqT_same s2 hq, rfl, _, _, rfl, _, _, rfl, _, _, rfl, _, _, rfl, rfl, ?_⟩
        refine ⟨_, rfl, _, rfl, _, rfl, o.g, rfl, log_small g0 (by omega), (by show 4 ≤ sizeLine; rw [sizeLine_eq]; decide), fun l hl => ?_⟩
        have lD : D ≠ l := ne_of_none eD hl
        refine ⟨_, rfl, b, rfl, ⟨_, sqT_same (same_new s2 hl) hb⟩, ?_⟩
        have fl : ∀ j : Nat, (([PySem.Str.ofString "opening", o.w, o.k, num o.g] ++ (o.nn.take j).flatMap ndW)).length ≤ 10 := fun j => by
          have e2 : ((o.nn.take j).flatMap ndW).length ≤ (o.nn.flatMap ndW).length := by
            have := List.take_append_drop j o.nn
            conv => rhs; rw [← this]
            rw [List.flatMap_append, List.length_append]
            omega
          simp only [opW, List.length_append, List.length_cons, List.length_nil] at wl ⊢
          omega
        refine for_tup (K := K) (a := b) (xs := bs.map V.ref) (fun j σ H' => ∃ (l : Addr) (o9 o10 : Option V), σ = [some (.ref kk), some (.ref oo), some (.ref D), some (.str o.k), o4, some (.str o.w), some (.int o.g), some (.ref b), some (.ref l), o9, o10] ∧
            H' l = some (.lst (([PySem.Str.ofString "opening", o.w, o.k, num o.g] ++ (o.nn.take j).flatMap ndW).map V.str)) ∧ H' D = some (.lst (((ks.map fun p => lineOf (kindW p)) ++ (os.take i).map fun o => lineOf (opW o)).map V.str)) ∧ Same H H')
          ⟨l, _, _, rfl, upd_same, (upd_ne lD).trans eD, same_new s2 hl⟩ (fun j σ H' _ ⟨_, _, _, _, _, _, z⟩ => sqT_same z hb) ?_ ?_
        · rintro j x σ H3 hj ⟨l, o9, o10, rfl, el, eD3, s3⟩
          rw [List.getElem?_map] at hj
          obtain ⟨q, hq1, rfl⟩ := Option.map_eq_some_iff.mp hj
          obtain ⟨n, hnn, hqn⟩ := paired_at hp hq1
          have hok := hn n (List.mem_of_getElem? hnn)
          refine ⟨_, rfl, _, rfl, q, rfl, ⟨_, sqT_same s3 hqn⟩, fun E1 hE => ?_⟩
          have sE : ∀ {xs : List V}, Same H3 (upd H3 E1 (.lst xs)) := same_new same_rfl hE
          have n3 : (ndW n).length ≤ 3 := by cases n <;> simp [ndW]
          refine lc_tup (K := K) (a := q) (xs := ndV n) (fun t H' => H' = upd H3 E1 (.lst (((ndW n).take t).map V.str))) rfl (fun t H' _ e => by rw [e]; exact sqT_same (same_tr s3 sE) hqn) ?_ ?_
          · rintro t v H4 ht rfl
            obtain ⟨y, hy, hv⟩ := nd_words hok m3 ht
            refine ⟨rfl, ?_⟩
            refine yes_if ?_
            have fin : ∃ acc, upd H3 E1 (.lst (((ndW n).take t).map V.str)) E1 = some (.lst acc) ∧ acc.length < sizeLine ∧ upd (upd H3 E1 (.lst (((ndW n).take t).map V.str))) E1 (.lst (acc ++ [.str y])) = upd H3 E1 (.lst (((ndW n).take (t + 1)).map V.str)) := by
              refine ⟨_, upd_same, ?_, ?_⟩
              · rw [List.length_map, List.length_take, sizeLine_eq]
                omega
              · rw [upd_upd, List.take_add_one, hy]
                simp
            rcases hv with ⟨z, rfl, rfl, z0, z1⟩ | rfl
            · exact ⟨_, rfl, .inl ⟨z, rfl, log_small z0 z1, fin⟩⟩
            · exact ⟨_, rfl, .inr ⟨y, rfl, fin⟩⟩
          · rintro H4 rfl
            rw [← ndW_n, List.take_of_length_le (Nat.le_refl _)]
            have el4 := sE (xs := (ndW n).map V.str) _ _ el
            have fj := fl j
            refine ⟨l, E1, _, _, rfl, rfl, el4, upd_same, (by rw [List.length_map, List.length_map, sizeLine_eq]; omega), fun r hr1 => ?_⟩
            have s5 := same_new (o := .lst ((([PySem.Str.ofString "opening", o.w, o.k, num o.g] ++ (o.nn.take j).flatMap ndW).map V.str) ++ (ndW n).map V.str)) (same_tr s3 (sE (xs := (ndW n).map V.str))) hr1
            refine ⟨r, _, _, rfl, ?_, ?_, s5⟩
            · rw [upd_same, List.take_add_one, hnn]
              simp
            · exact (upd_ne (ne_of_none ((sE (xs := (ndW n).map V.str)) _ _ eD3) hr1)).trans ((sE (xs := (ndW n).map V.str)) _ _ eD3)
        · rintro σ H3 ⟨l, o9, o10, rfl, el, eD3, s3⟩
          have hl2 : (bs.map V.ref).length = o.nn.length := by rw [List.length_map]; exact hp.length
          rw [hl2, List.take_of_length_le (Nat.le_refl _)] at el
          have hDn : H D = none := hD
          refine ⟨_, rfl, .inl ⟨rfl, _, SqL.of eD3⟩, ⟨_, rfl⟩, _, rfl, _, l, opW o, rfl, rfl, .inl (SqL.of el), ?_, ?_⟩
          · have h1 := sum_le (opW_l kok oo1)
            have h2 : (PySem.Str.ofString " ").length = 1 := by decide +kernel
            rw [h2]
            omega
          refine ⟨D, _, _, rfl, rfl, eD3, (by have := bl i; rw [List.length_map, sizeLine_eq]; omega), _, _, _, _, _, _, _, _, rfl, ?_, fun b1 o1 e => (upd_ne (ne_of_none e hDn)).trans (s3 _ _ e)⟩
          rw [upd_same, List.take_add_one, ho]
          show some (HO.lst (_ ++ [V.str (lineOf (opW o))])) = _
          simp
      · rintro σ H2 ⟨o3, o4, o5, o6, o7, o8, o9, o10, rfl, eD, s2⟩
        rw [List.length_map, hol, List.take_of_length_le (Nat.le_refl _)] at eD
        exact ⟨_, rfl, k D H2 s2 eD⟩
end
end K06

set_option Elab.async false
set_option linter.all false
set_option maxRecDepth 100000
set_option maxHeartbeats 4000000
/-! The opening that the parts of a line tell. -/
namespace K06
open PySem PySem.Spec PyProof.Rows L2 Mine TL SkE StX
abbrev sOIn : Stmt := top 28
def opV (o : Opn) : List V := [.str (PySem.Str.ofString "opening"), .str o.w, .str o.k, .int o.g] ++ o.nn.flatMap ndV
theorem at1 {x y : V} {r : List V} : atI (x :: y :: r) 1 = some y := by
  have e : (1 : Int) = ((1 : Nat) : Int) := rfl
  rw [e]
  exact atI_nat rfl
theorem cutMid {A M B : List V} : cutV (A ++ (M ++ B)) (some ((A.length : Nat) : Int)) (some ((A.length + M.length : Nat) : Int)) = M := by
  unfold cutV
  rw [HT.sIx_nat, HT.sIx_nat]
  have h1 : min A.length (A ++ (M ++ B)).length = A.length := by
    rw [List.length_append]
    omega
  have h2 : min (A.length + M.length) (A ++ (M ++ B)).length = A.length + M.length := by
    rw [List.length_append, List.length_append]
    omega
  rw [h1, h2, List.drop_left, Nat.add_sub_cancel_left, List.take_left]
theorem paired_snoc {α β : Type} {R : α → β → Prop} {a : α} {b : β} (h : R a b) : ∀ {as : List α} {bs : List β}, Paired R as bs → Paired R (as ++ [a]) (bs ++ [b])
  | _, _, .nil => .cons h .nil
  | _, _, .cons x r => .cons x (paired_snoc h r)
theorem flat_len (l : List Nd) : (l.flatMap ndV).length ≤ 3 * l.length := by
  induction l with
  | nil => simp
  | cons n l ih =>
    rw [List.flatMap_cons, List.length_append, List.length_cons]
    cases n <;> simp only [ndV, List.length_cons, List.length_nil] <;> omega
structure TxtOI (mg : Str → Option Value) : Prop where
  len : mg "len" = none
  tuple : mg "tuple" = none
def spOIn : Sp := fun vs H Q _ => ∃ (p : Addr) (o : Opn), vs = [.ref p] ∧ H p = some (.lst (opV o)) ∧ o.nn.length ≤ 2 ∧ ∀ r H', Same H H' → ItemAt H' r o → Q (.ref r) H'
section
variable {P : Program} {w : World} {K : PySem.W.Frag} {mg : Str → Option Value} {base : Heap}
theorem scOIn : FnScope ["parts", "needs", "at", "end"] ["parts"] (defScope sOIn) := ⟨rfl, rfl, rfl, by decide +kernel, rfl, by decide +kernel, by decide +kernel⟩
theorem ok_oin {f : Addr} {fd : FuncData} (F : Fun K "_opening_in" "_opening_in" sOIn f fd) (T : TxtOI mg) : FnOk P w K mg base CX0 1 f fd ["parts"] spOIn := by
  refine F.ok scOIn (fun vs H Q E h => ?_) (fun cdv A outer s H vs Q E hr h => ?_)
  · obtain ⟨_, _, rfl, _⟩ := h
    rfl
  · obtain ⟨p, o, rfl, hp, nl, k⟩ := h
    refine ⟨_, pss_cons (ps_set (i := 1) scOIn.nd rfl (.inl rfl) (pe_lst pa_nil))
      (pss_cons (ps_set (i := 2) scOIn.nd rfl (.inl rfl) pe_int)
      (pss_cons (ps_while PassesOwn.never (pt_cmpR op_lt (pv 2) (pe_callB call_len_seq (by rfl) T.len PySem.boot_len (pa_cons (pv 0) pa_nil)) (nomark _))
        (pss_cons (ps_set (i := 3) scOIn.nd rfl (.inl rfl) (pe_ifExp (pt_cmpR op_eq (pe_ix ix_list (pv 0) (pv 2) (fun _ _ => rfl)) pe_str (nomark _)) (pe_op op_add (pv 2) pe_int) (pe_op op_add (pv 2) pe_int)))
        (pss_cons (ps_expr (pe_bm PySem.F.plainAttrs_list PySem.F.slot_list_append PySem.F.type_list_append mt_append (pv 1) (pa_cons (pe_callTy call_tuple_of (by rfl) T.tuple (by decide +kernel) (pa_cons (pe_slice sl_list (pv 0) (po_some (pv 2)) (po_some (pv 3))) pa_nil)) pa_nil)))
        (pss_one (ps_set (i := 2) scOIn.nd rfl (.inl rfl) (pv 3))))))
      (pss_one (ps_ret (pe_tup (pa_cons (pe_ix ix_list (pv 0) pe_int (fun _ _ => rfl)) (pa_cons (pe_ix ix_list (pv 0) pe_int (fun _ _ => rfl)) (pa_cons (pe_ix ix_list (pv 0) pe_int (fun _ _ => rfl)) (pa_cons (pe_callTy call_tuple_of (by rfl) T.tuple (by decide +kernel) (pa_cons (pv 1) pa_nil)) pa_nil))))))))), ?_⟩
    refine ⟨Nat.zero_le _, fun D hD => ?_⟩
    have fl := flat_len o.nn
    refine ⟨fun m σ H' => ∃ (i : Nat) (bs : List Addr) (o3 : Option V), m = o.nn.length - i ∧ i ≤ o.nn.length ∧ σ = [some (.ref p), some (.ref D), some (.int ((4 + ((o.nn.take i).flatMap ndV).length : Nat) : Int)), o3] ∧ H' D = some (.lst (bs.map V.ref)) ∧
      Paired (fun x n => H' x = some (.tup (ndV n))) bs (o.nn.take i) ∧ Same H H', ⟨_, 0, [], none, rfl, Nat.zero_le _, rfl, upd_same, .nil, same_new same_rfl hD⟩, ?_⟩
    rintro m σ H1 ⟨i, bs, o3, rfl, hi, rfl, eD, hb, s1⟩
    have hp1 := s1 _ _ hp
    have bl := hb.length
    have xl : (opV o).length = 4 + (o.nn.flatMap ndV).length := by simp only [opV, List.length_append, List.length_cons, List.length_nil]
    refine ⟨_, rfl, _, rfl, p, _, rfl, .inl (SqL.of hp1), _, _, rfl, rfl, _, rfl, ?_⟩
    by_cases lt : i < o.nn.length
    · obtain ⟨n, hn⟩ : ∃ n, o.nn[i]? = some n := ⟨_, List.getElem?_eq_getElem lt⟩
      have split : o.nn = o.nn.take i ++ n :: o.nn.drop (i + 1) := by
        have e1 : o.nn.drop i = n :: o.nn.drop (i + 1) := by
          rw [List.drop_eq_getElem_cons lt, (List.getElem?_eq_some_iff.mp hn).2]
        rw [← e1, List.take_append_drop]
      have flat : opV o = ([V.str (PySem.Str.ofString "opening"), .str o.w, .str o.k, .int o.g] ++ (o.nn.take i).flatMap ndV) ++ (ndV n ++ (o.nn.drop (i + 1)).flatMap ndV) := by
        unfold opV
        conv => lhs; rw [split]
        rw [List.flatMap_append, List.flatMap_cons]
        simp only [List.append_assoc]
      have Al : ([V.str (PySem.Str.ofString "opening"), .str o.w, .str o.k, .int o.g] ++ (o.nn.take i).flatMap ndV).length = 4 + ((o.nn.take i).flatMap ndV).length := by simp only [List.length_append, List.length_cons, List.length_nil]
      have nv : 2 ≤ (ndV n).length := by cases n <;> simp [ndV]
      have big : ((4 + ((o.nn.take i).flatMap ndV).length : Nat) : Int) < ((opV o).length : Nat) := by
        have := congrArg List.length flat
        rw [List.length_append, Al, List.length_append] at this
        omega
      refine ite2 (fun _ => ?_) (fun z => absurd (decide_eq_true big) z)
      have tk : o.nn.take (i + 1) = o.nn.take i ++ [n] := by
        rw [List.take_add_one, hn]
        rfl
      have at_ : ∀ {v : V}, (ndV n)[0]? = some v → atI (opV o) ((4 + ((o.nn.take i).flatMap ndV).length : Nat) : Int) = some v := fun {v} e => by
        refine atI_nat ?_
        rw [flat, List.getElem?_append_right (by rw [Al]; exact Nat.le_refl _), Al, Nat.sub_self, List.getElem?_append_left (by omega)]
        exact e
      have cut : cutV (opV o) (some ((4 + ((o.nn.take i).flatMap ndV).length : Nat) : Int)) (some ((4 + ((o.nn.take i).flatMap ndV).length + (ndV n).length : Nat) : Int)) = ndV n := by
        rw [flat, ← Al]
        exact cutMid
      refine ⟨fun σ' H' => ∃ (bs : List Addr) (o3 : Option V), σ' = [some (.ref p), some (.ref D), some (.int ((4 + ((o.nn.take (i + 1)).flatMap ndV).length : Nat) : Int)), o3] ∧ H' D = some (.lst (bs.map V.ref)) ∧ Paired (fun x n => H' x = some (.tup (ndV n))) bs (o.nn.take (i + 1)) ∧ Same H H',
        fun σ' H' ⟨bs', o3', e1, e2, e3, e4⟩ => ⟨o.nn.length - (i + 1), by omega, i + 1, bs', o3', rfl, lt, e1, e2, e3, e4⟩, ?_⟩
      -- from the end on
      have nxt : 4 + ((o.nn.take (i + 1)).flatMap ndV).length = 4 + ((o.nn.take i).flatMap ndV).length + (ndV n).length := by
        rw [tk, List.flatMap_append, List.length_append]
        simp
        omega
      have go : ∀ (ev : Int), ev = ((4 + ((o.nn.take i).flatMap ndV).length + (ndV n).length : Nat) : Int) → ∀ q, H1 q = none → ∀ l, upd H1 q (.lst (ndV n)) l = none →
          upd (upd H1 q (.lst (ndV n))) l (.tup (ndV n)) D = some (.lst (bs.map V.ref)) ∧ Paired (fun x nx => upd (upd (upd H1 q (.lst (ndV n))) l (.tup (ndV n))) D (.lst (bs.map V.ref ++ [.ref l])) x = some (.tup (ndV nx))) (bs ++ [l]) (o.nn.take (i + 1)) ∧
          Same H (upd (upd (upd H1 q (.lst (ndV n))) l (.tup (ndV n))) D (.lst (bs.map V.ref ++ [.ref l]))) := fun ev _ q hq l hl => by
        have e1 := (upd_ne (o := .lst (ndV n)) (ne_of_none eD hq)).trans eD
        have e2 := (upd_ne (o := .tup (ndV n)) (ne_of_none e1 hl)).trans e1
        have lD : D ≠ l := ne_of_none e1 hl
        refine ⟨e2, ?_, fun b1 o1 e => (upd_ne (ne_of_none e hD)).trans ((same_new (same_new s1 hq) hl) _ _ e)⟩
        rw [tk]
        refine paired_snoc (R := fun x (nx : Nd) => upd (upd (upd H1 q (.lst (ndV n))) l (.tup (ndV n))) D (.lst (bs.map V.ref ++ [.ref l])) x = some (.tup (ndV nx))) ((upd_ne lD.symm).trans upd_same) (paired_mono (R := fun x (n' : Nd) => H1 x = some (.tup (ndV n'))) (fun x n' e => ?_) hb)
        have xD : x ≠ D := ne_of e eD (by intro z; cases z)
        have e3 := (upd_ne (o := .lst (ndV n)) (ne_of_none e hq)).trans e
        exact (upd_ne xD).trans ((upd_ne (ne_of_none e3 hl)).trans e3)
      have rest : ∀ (ev : Int), ev = ((4 + ((o.nn.take i).flatMap ndV).length + (ndV n).length : Nat) : Int) → ∀ q, H1 q = none → ∃ p' ys, [V.ref q] = [V.ref p'] ∧ SqL K (upd H1 q (.lst (ndV n))) p' ys ∧ ys = ndV n := fun ev _ q hq => ⟨q, _, rfl, SqL.of upd_same, rfl⟩
      have lsz : (bs.map V.ref).length < sizeLine := by
        rw [List.length_map, bl, List.length_take, sizeLine_eq]
        omega
      cases n with
      | part j =>
        refine ⟨_, rfl, _, rfl, p, _, _, _, rfl, rfl, SqL.of hp1, at_ rfl, rfl, _, rfl, ite2 (fun _ => ?_) (fun z => absurd (by decide) z)⟩
        refine ⟨_, rfl, _, _, rfl, rfl, ?_⟩
        have ev : ((4 + ((o.nn.take i).flatMap ndV).length : Nat) : Int) + 2 = ((4 + ((o.nn.take i).flatMap ndV).length + (ndV (.part j)).length : Nat) : Int) := by
          simp only [ndV, List.length_cons, List.length_nil]
          omega
        refine ⟨_, rfl, .inl ⟨rfl, _, SqL.of eD⟩, _, rfl, _, rfl, _, rfl, _, rfl, _, rfl, p, _, rfl, SqL.of hp1, fun q hq => ?_⟩
        rw [ev, cut]
        refine ⟨q, _, rfl, .inl ⟨SqL.of upd_same, fun l hl => ?_⟩⟩
        obtain ⟨z1, z2, z3⟩ := go _ rfl q hq l hl
        refine ⟨D, _, _, rfl, rfl, z1, lsz, _, rfl, bs ++ [l], some (.int (((4 + ((o.nn.take i).flatMap ndV).length : Nat) : Int) + 2)), ?_, ?_, z2, z3⟩
        · rw [nxt, ← ev]
          rfl
        · rw [upd_same, List.map_append]
          rfl
      | around c j =>
        refine ⟨_, rfl, _, rfl, p, _, _, _, rfl, rfl, SqL.of hp1, at_ rfl, rfl, _, rfl, ite2 (fun z => absurd z (by decide)) (fun _ => ?_)⟩
        refine ⟨_, rfl, _, _, rfl, rfl, ?_⟩
        have ev : ((4 + ((o.nn.take i).flatMap ndV).length : Nat) : Int) + 3 = ((4 + ((o.nn.take i).flatMap ndV).length + (ndV (.around c j)).length : Nat) : Int) := by
          simp only [ndV, List.length_cons, List.length_nil]
          omega
        refine ⟨_, rfl, .inl ⟨rfl, _, SqL.of eD⟩, _, rfl, _, rfl, _, rfl, _, rfl, _, rfl, p, _, rfl, SqL.of hp1, fun q hq => ?_⟩
        rw [ev, cut]
        refine ⟨q, _, rfl, .inl ⟨SqL.of upd_same, fun l hl => ?_⟩⟩
        obtain ⟨z1, z2, z3⟩ := go _ rfl q hq l hl
        refine ⟨D, _, _, rfl, rfl, z1, lsz, _, rfl, bs ++ [l], some (.int (((4 + ((o.nn.take i).flatMap ndV).length : Nat) : Int) + 3)), ?_, ?_, z2, z3⟩
        · rw [nxt, ← ev]
          rfl
        · rw [upd_same, List.map_append]
          rfl
      | inside j c =>
        refine ⟨_, rfl, _, rfl, p, _, _, _, rfl, rfl, SqL.of hp1, at_ rfl, rfl, _, rfl, ite2 (fun z => absurd z (by decide)) (fun _ => ?_)⟩
        refine ⟨_, rfl, _, _, rfl, rfl, ?_⟩
        have ev : ((4 + ((o.nn.take i).flatMap ndV).length : Nat) : Int) + 3 = ((4 + ((o.nn.take i).flatMap ndV).length + (ndV (.inside j c)).length : Nat) : Int) := by
          simp only [ndV, List.length_cons, List.length_nil]
          omega
        refine ⟨_, rfl, .inl ⟨rfl, _, SqL.of eD⟩, _, rfl, _, rfl, _, rfl, _, rfl, _, rfl, p, _, rfl, SqL.of hp1, fun q hq => ?_⟩
        rw [ev, cut]
        refine ⟨q, _, rfl, .inl ⟨SqL.of upd_same, fun l hl => ?_⟩⟩
        obtain ⟨z1, z2, z3⟩ := go _ rfl q hq l hl
        refine ⟨D, _, _, rfl, rfl, z1, lsz, _, rfl, bs ++ [l], some (.int (((4 + ((o.nn.take i).flatMap ndV).length : Nat) : Int) + 3)), ?_, ?_, z2, z3⟩
        · rw [nxt, ← ev]
          rfl
        · rw [upd_same, List.map_append]
          rfl
    · have e : i = o.nn.length := by omega
      subst e
      rw [List.take_of_length_le (Nat.le_refl _)] at hb ⊢
      refine ite2 (fun z => absurd (of_decide_eq_true z) (by rw [xl]; omega)) (fun _ => ?_)
      refine ⟨_, rfl, p, _, _, .str o.w, rfl, rfl, SqL.of hp1, at1, _, rfl, p, _, _, .str o.k, rfl, rfl, SqL.of hp1, (atI_nat (j := 2) rfl), _, rfl, p, _, _, .int o.g, rfl, rfl, SqL.of hp1, (atI_nat (j := 3) rfl), _, rfl, D, _, rfl, .inl ⟨SqL.of eD, fun l hl => ⟨(by show 4 ≤ sizeLine; rw [sizeLine_eq]; decide), fun r hr1 => ?_⟩⟩⟩
      have sl := same_new (o := .tup (bs.map V.ref)) (same_rfl (H := H1)) hl
      have sr := same_new (o := .tup [.str o.w, .str o.k, .int o.g, .ref l]) sl hr1
      refine k r _ (same_tr s1 sr) ⟨l, bs, upd_same, (upd_ne (ne_of_none upd_same hr1)).trans upd_same, paired_mono (fun _ _ e => sr _ _ e) hb⟩
end
end K06

set_option Elab.async false
set_option linter.all false
set_option maxRecDepth 100000
set_option maxHeartbeats 4000000
/-! Whether the parts of a line tell a kind, an opening. -/
namespace K06
open PySem PySem.Spec PyProof.Rows L2 Mine TL SkE StX
abbrev sKL : Stmt := top 26
theorem at0 {x : V} {r : List V} : atI (x :: r) 0 = some x := by
  have e : (0 : Int) = ((0 : Nat) : Int) := rfl
  rw [e]
  exact atI_nat rfl
theorem paired_ta {α β : Type} {R : α → β → Prop} : ∀ {as : List α} {bs : List β} {i : Nat} {b : β}, Paired R as bs → bs[i]? = some b → ∃ a, as[i]? = some a ∧ R a b
  | _, _, 0, b, .cons h _, e => ⟨_, rfl, by cases e; exact h⟩
  | _, _, i + 1, b, .cons _ r, e => by
    obtain ⟨a, e1, h1⟩ := paired_ta r (i := i) e
    exact ⟨a, e1, h1⟩
theorem last_at {xs : List V} {v : V} (h : xs.getLast? = some v) : atI xs (-1) = some v := by
  have hne : xs ≠ [] := fun z => by rw [z] at h; cases h
  have l : 0 < xs.length := List.length_pos_iff.mpr hne
  have e : ixN xs.length (-1) = some (xs.length - 1) := by
    unfold ixN
    simp
    omega
  unfold atI
  rw [e]
  rw [List.getLast?_eq_getElem?] at h
  exact h
theorem paired_last {α β : Type} {R : α → β → Prop} {as : List α} {bs : List β} {b : β} (h : Paired R as bs) (e : bs.getLast? = some b) : ∃ a, as.getLast? = some a ∧ R a b := by
  rw [List.getLast?_eq_getElem?] at e
  obtain ⟨a, h1, h2⟩ := paired_ta h e
  refine ⟨a, ?_, h2⟩
  rw [List.getLast?_eq_getElem?, h.length]
  exact h1
/-- the kinds read so far -/
def KList (H : Hp) (kp : Addr) (done : List (Str × Int)) : Prop := ∃ as : List Addr, H kp = some (.lst (as.map V.ref)) ∧ Paired (fun a p => H a = some (.tup [.str p.1, .int p.2])) as done
theorem KList.same {H H' : Hp} {kp : Addr} {done : List (Str × Int)} (h : KList H kp done) (k : Same H H') : KList H' kp done := let ⟨as, e, p⟩ := h; ⟨as, k _ _ e, paired_mono (fun _ _ z => k _ _ z) p⟩
def spKL : Sp := fun vs H Q _ => ∃ (kp p : Addr) (done : List (Str × Int)) (xs : List V), vs = [.ref kp, .ref p] ∧ H p = some (.lst xs) ∧ KList H kp done ∧ done.length ≤ 1000 ∧
  ((∃ q : Str × Int, xs = [.str (PySem.Str.ofString "kind"), .str q.1, .int q.2] ∧ q.1 ∈ WW ∧ 1 ≤ q.2 ∧ q.2 ≤ 3 ∧ (∀ l, done.getLast? = some l → l.1.cps.toList < q.1.cps.toList) ∧ ∀ H', Same H H' → Q (.bl true) H') ∨
   (∃ r, xs = .str (PySem.Str.ofString "opening") :: r ∧ ∀ H', Same H H' → Q (.bl false) H'))
structure TxtKL (K : PySem.W.Frag) (mg : Str → Option Value) (fQ : Addr) : Prop where
  tuple : mg "tuple" = none
  gQ : mg "_is_kind" = some (.ref fQ)
  kQ : PySem.W.keepIn K (.ref fQ) = true
section
variable {P : Program} {w : World} {K : PySem.W.Frag} {mg : Str → Option Value} {base : Heap}
theorem scKL : FnScope ["kinds", "parts"] ["kinds", "parts"] (defScope sKL) := ⟨rfl, rfl, rfl, by decide +kernel, rfl, by decide +kernel, by decide +kernel⟩
theorem ok_kl {f fQ : Addr} {fd dQ : FuncData} (F : Fun K "_is_kind_line" "_is_kind_line" sKL f fd) (T : TxtKL K mg fQ) (G : FnOk P w K mg base CX0 2 fQ dQ ["kind"] (spKindQ K)) (bG : Binds K dQ ["kind"] []) : FnOk P w K mg base CX0 3 f fd ["kinds", "parts"] spKL := by
  refine F.ok scKL (fun vs H Q E h => ?_) (fun cdv A outer s H vs Q E hr h => ?_)
  · obtain ⟨_, _, _, _, rfl, _⟩ := h
    rfl
  · obtain ⟨kp, p, done, xs, rfl, hp, hk, dl, hc⟩ := h
    refine ⟨_, pss_cons (ps_if (PW.pt (pw_or (pt_cmpR op_ne (pe_ix ix_list (pv 1) pe_int (fun _ _ => rfl)) pe_str (nomark _)) (pw_or1 (pt_not (pt_val (pe_call G hr rfl T.gQ T.kQ bG .nil pass0 (pa_cons (pe_callTy call_tuple_of (by rfl) T.tuple (by decide +kernel) (pa_cons (pe_slice sl_list (pv 1) (po_some pe_int) po_none) pa_nil)) pa_nil))))))) (pss_one (ps_ret pe_bl)) pss_nil)
      (pss_one (ps_ret (pe_or (pe_notT (pv 0)) (pe_one (pe_cmpR op_lt_str (pe_ix ix_tup (pe_ix ix_list (pv 0) (pe_un un_neg pe_int) (fun _ _ => rfl)) pe_int (fun _ _ => rfl)) (pe_ix ix_list (pv 1) pe_int (fun _ _ => rfl)) (nomark _)))))), ?_⟩
    rcases hc with ⟨q, rfl, qw, q1, q3, ql, k⟩ | ⟨r, rfl, k⟩
    · refine ⟨_, rfl, p, _, _, _, rfl, rfl, SqL.of hp, rfl, rfl, _, rfl, ite2 (fun z => absurd z (by decide)) (fun _ => ?_)⟩
      refine ⟨_, rfl, _, rfl, p, _, rfl, SqL.of hp, fun l hl => ?_⟩
      rw [cut1]
      refine ⟨l, _, rfl, .inl ⟨SqL.of upd_same, fun t ht => ?_⟩⟩
      have s1 := same_new (o := .tup [.str q.1, .int q.2]) (same_new (o := .lst [.str q.1, .int q.2]) (same_rfl (H := H)) hl) ht
      refine ⟨t, q.1, q.2, rfl, SqT.of upd_same, qw, q1, q3, fun H2 s2 => ?_⟩
      have s3 := same_tr s1 s2
      obtain ⟨as, ek, pk⟩ := hk.same s3
      have al := pk.length
      refine ⟨_, rfl, ite2 (fun z => absurd z (by decide)) (fun _ => ?_)⟩
      refine ⟨_, rfl, _, .inl ⟨_, SqL.of ek, rfl⟩, _, rfl, ?_⟩
      cases dn : done.getLast? with
      | none =>
        have : done = [] := List.getLast?_eq_none_iff.mp dn
        subst this
        have : as = [] := List.length_eq_zero_iff.mp al
        subst this
        exact ite2 (fun _ => k _ s3) (fun z => absurd rfl z)
      | some lst =>
        obtain ⟨a, e1, e2⟩ := paired_last pk dn
        have ne : (as.map V.ref).isEmpty = false := by
          cases as with
          | nil => cases e1
          | cons _ _ => rfl
        rw [ne]
        refine ite2 (fun z => absurd z (by decide)) (fun _ => ?_)
        have la : atI (as.map V.ref) (-1) = some (.ref a) := last_at (by rw [List.getLast?_map, e1]; rfl)
        refine ⟨_, rfl, _, rfl, kp, _, _, _, rfl, rfl, SqL.of ek, la, a, _, _, _, rfl, rfl, SqT.of e2, rfl, _, rfl, p, _, _, .str q.1, rfl, rfl, SqL.of (s3 _ _ hp), at1, _, _, rfl, rfl, ?_⟩
        rw [decide_eq_true (ql _ dn)]
        exact k _ s3
    · refine ⟨_, rfl, p, _, _, .str (PySem.Str.ofString "opening"), rfl, rfl, SqL.of hp, at0, rfl, _, rfl, ite2 (fun _ => ?_) (fun z => absurd (by decide) z)⟩
      refine ite2 (fun _ => k H same_rfl) (fun z => absurd rfl z)
end
end K06

set_option Elab.async false
set_option linter.all false
set_option maxRecDepth 100000
set_option maxHeartbeats 4000000
/-! Whether the parts of a line tell an opening. -/
namespace K06
open PySem PySem.Spec PyProof.Rows L2 Mine TL SkE StX
abbrev sOL : Stmt := top 27
def OList (H : Hp) (op : Addr) (done : List Opn) : Prop := ∃ as : List Addr, H op = some (.lst (as.map V.ref)) ∧ Paired (ItemAt H) as done
theorem OList.same {H H' : Hp} {op : Addr} {done : List Opn} (h : OList H op done) (k : Same H H') : OList H' op done := let ⟨as, e, p⟩ := h; ⟨as, k _ _ e, paired_mono (fun _ _ z => ItemAt.mono (fun _ _ e => k _ _ e) z) p⟩
def spOL : Sp := fun vs H Q _ => ∃ (kp op p : Addr) (ks : List (Str × Int)) (done : List Opn) (o : Opn), vs = [.ref kp, .ref op, .ref p] ∧ H p = some (.lst (opV o)) ∧ KList H kp ks ∧ KsOk ks ∧ OList H op done ∧ done.length ≤ 1000 ∧ OpnOk ks o ∧
  (∀ l, done.getLast? = some l → l.w.cps.toList < o.w.cps.toList) ∧ ∀ H', Same H H' → Q (.bl true) H'
structure TxtOL (K : PySem.W.Frag) (mg : Str → Option Value) (fQ fI : Addr) : Prop where
  len : mg "len" = none
  dict : mg "dict" = none
  gQ : mg "_is_opening" = some (.ref fQ)
  kQ : PySem.W.keepIn K (.ref fQ) = true
  gI : mg "_opening_in" = some (.ref fI)
  kI : PySem.W.keepIn K (.ref fI) = true
section
variable {P : Program} {w : World} {K : PySem.W.Frag} {mg : Str → Option Value} {base : Heap}
theorem scOL : FnScope ["kinds", "openings", "parts"] ["kinds", "openings", "parts"] (defScope sOL) := ⟨rfl, rfl, rfl, by decide +kernel, rfl, by decide +kernel, by decide +kernel⟩
theorem ok_ol {f fQ fI : Addr} {fd dQ dI : FuncData} (F : Fun K "_is_opening_line" "_is_opening_line" sOL f fd) (T : TxtOL K mg fQ fI) (G : FnOk P w K mg base CX0 4 fQ dQ ["counts", "opening"] (spOpenQ K)) (bG : Binds K dQ ["counts", "opening"] [])
    (GI : FnOk P w K mg base CX0 1 fI dI ["parts"] spOIn) (bI : Binds K dI ["parts"] []) : FnOk P w K mg base CX0 5 f fd ["kinds", "openings", "parts"] spOL := by
  refine F.ok scOL (fun vs H Q E h => ?_) (fun cdv A outer s H vs Q E hr h => ?_)
  · obtain ⟨_, _, _, _, _, _, rfl, _⟩ := h
    rfl
  · obtain ⟨kp, op, p, ks, done, o, rfl, hp, hk, kok, ho, dl, ook, ol, k⟩ := h
    have hr1 : Room 1 _ := hr.mono (by decide)
    refine ⟨_, pss_cons (ps_if (PW.pt (pw_or (pt_cmpR op_ne (pe_ix ix_list (pv 2) pe_int (fun _ _ => rfl)) pe_str (nomark _)) (pw_or (pt_cmpR op_lt (pe_callB call_len_seq (by rfl) T.len PySem.boot_len (pa_cons (pv 2) pa_nil)) pe_int (nomark _))
        (pw_or1 (pt_not (pt_val (pe_call G hr rfl T.gQ T.kQ bG .nil pass0 (pa_cons (pe_callTy (call_dictP rfl) (by rfl) T.dict (by decide +kernel) (pa_cons (pv 0) pa_nil)) (pa_cons (pe_call GI hr1 rfl T.gI T.kI bI .nil pass0 (pa_cons (pv 2) pa_nil)) pa_nil))))))))) (pss_one (ps_ret pe_bl)) pss_nil)
      (pss_one (ps_ret (pe_or (pe_notT (pv 1)) (pe_one (pe_cmpR op_lt_str (pe_ix ix_tup (pe_ix ix_list (pv 1) (pe_un un_neg pe_int) (fun _ _ => rfl)) pe_int (fun _ _ => rfl)) (pe_ix ix_list (pv 2) pe_int (fun _ _ => rfl)) (nomark _)))))), ?_⟩
    obtain ⟨m, hm, g0, g1, nl, hn⟩ := ook.ex
    have xl : 4 ≤ (opV o).length := by
      simp only [opV, List.length_append, List.length_cons, List.length_nil]
      omega
    refine ⟨_, rfl, p, _, _, .str (PySem.Str.ofString "opening"), rfl, rfl, SqL.of hp, at0, rfl, _, rfl, ite2 (fun z => absurd z (by decide)) (fun _ => ?_)⟩
    refine ⟨_, rfl, p, _, rfl, .inl (SqL.of hp), _, _, rfl, rfl, _, rfl, ite2 (fun z => absurd (of_decide_eq_true z) (by omega)) (fun _ => ?_)⟩
    obtain ⟨as0, ek, pk⟩ := id hk
    refine ⟨_, rfl, kp, as0, ks.map kvOf, rfl, SqL.of ek, paired_kv (paired_mono (fun _ _ e => SqT.of e) pk), fun cd hcd => ?_⟩
    have s1 : Same H (upd H cd (.dK (mergeK [] (ks.map kvOf)))) := same_new same_rfl hcd
    refine ⟨_, rfl, p, o, rfl, s1 _ _ hp, nl, fun r H2 s2 hit => ?_⟩
    have s12 := same_tr s1 s2
    refine ⟨cd, r, o, ks, rfl, (cnt_new kok.nd).same s2, kok.ww, hit.opn, ook, fun H3 s3 => ?_⟩
    have s13 := same_tr s12 s3
    obtain ⟨as, eo, po⟩ := ho.same s13
    have al := po.length
    refine ⟨_, rfl, ite2 (fun z => absurd z (by decide)) (fun _ => ?_)⟩
    refine ⟨_, rfl, _, .inl ⟨_, SqL.of eo, rfl⟩, _, rfl, ?_⟩
    cases dn : done.getLast? with
    | none =>
      have : done = [] := List.getLast?_eq_none_iff.mp dn
      subst this
      have : as = [] := List.length_eq_zero_iff.mp al
      subst this
      exact ite2 (fun _ => k _ s13) (fun z => absurd rfl z)
    | some lst =>
      obtain ⟨a, e1, b, bs, e2, _, _⟩ := paired_last po dn
      have ne : (as.map V.ref).isEmpty = false := by
        cases as with
        | nil => cases e1
        | cons _ _ => rfl
      rw [ne]
      refine ite2 (fun z => absurd z (by decide)) (fun _ => ?_)
      have la : atI (as.map V.ref) (-1) = some (.ref a) := last_at (by rw [List.getLast?_map, e1]; rfl)
      refine ⟨_, rfl, _, rfl, op, _, _, _, rfl, rfl, SqL.of eo, la, a, _, _, _, rfl, rfl, SqT.of e2, rfl, _, rfl, p, _, _, .str o.w, rfl, rfl, SqL.of (s13 _ _ hp), at1, _, _, rfl, rfl, ?_⟩
      rw [decide_eq_true (ol _ dn)]
      exact k _ s13
end
end K06

set_option Elab.async false
set_option linter.all false
set_option maxRecDepth 100000
set_option maxHeartbeats 4000000
/-! The words of a line, numerals as numbers. -/
namespace K06
open PySem PySem.Spec PyProof.Rows L2 Mine TL SkE StX
/-- the numeral that a word is, if it is one -/
def nmOf (x : Str) : Option Int := if x = num 0 then some 0 else if x = num 1 then some 1 else if x = num 2 then some 2 else if x = num 3 then some 3 else none
def wV (x : Str) : V := match nmOf x with
  | some i => .int i
  | none => .str x
theorem wV_num {j : Int} (h0 : 0 ≤ j) (h1 : j < 4) : wV (num j) = .int j := by
  have : j = 0 ∨ j = 1 ∨ j = 2 ∨ j = 3 := by omega
  have e : ∀ j ∈ [(0 : Int), 1, 2, 3], nmOf (num j) = some j := by decide +kernel
  have := e j (by simpa using this)
  unfold wV
  rw [this]
theorem nm_ww : ∀ x ∈ WW, nmOf x = none := by decide +kernel
theorem wV_none {x : Str} (h : nmOf x = none) : wV x = .str x := by
  unfold wV
  rw [h]
theorem wV_ww {x : Str} (h : x ∈ WW) : wV x = .str x := wV_none (nm_ww x h)
theorem wV_lit {x : Str} (h : nmOf x = none := by decide +kernel) : wV x = .str x := wV_none h
theorem wV_kind {p : Str × Int} (hw : p.1 ∈ WW) (h0 : 0 ≤ p.2) (h1 : p.2 < 4) : (kindW p).map wV = [.str (PySem.Str.ofString "kind"), .str p.1, .int p.2] := by
  simp only [kindW, List.map_cons, List.map_nil]
  rw [wV_lit (x := PySem.Str.ofString "kind"), wV_ww hw, wV_num h0 h1]
theorem wV_nd {m : Int} {ks : List (Str × Int)} {n : Nd} (h : NdOk m ks n) (h3 : m ≤ 3) (kw : ∀ p ∈ ks, p.1 ∈ WW) : (ndW n).map wV = ndV n := by
  cases n with
  | part j =>
    obtain ⟨j0, j1⟩ := h
    simp only [ndW, ndV, List.map_cons, List.map_nil]
    rw [wV_lit (x := PySem.Str.ofString "part"), wV_num j0 (by omega)]
  | around c j =>
    obtain ⟨c1, j0, j1⟩ := h
    simp only [ndW, ndV, List.map_cons, List.map_nil]
    rw [wV_lit (x := PySem.Str.ofString "around"), wV_ww (kw _ c1), wV_num j0 (by omega)]
  | inside j c =>
    obtain ⟨c1, j0, j1⟩ := h
    simp only [ndW, ndV, List.map_cons, List.map_nil]
    rw [wV_lit (x := PySem.Str.ofString "inside"), wV_ww (kw _ c1), wV_num j0 (by omega)]
theorem flat_wV {m : Int} {ks : List (Str × Int)} (h3 : m ≤ 3) (kw : ∀ p ∈ ks, p.1 ∈ WW) : ∀ {l : List Nd}, (∀ n ∈ l, NdOk m ks n) → (l.flatMap ndW).map wV = l.flatMap ndV
  | [], _ => rfl
  | n :: l, h => by
    rw [List.flatMap_cons, List.flatMap_cons, List.map_append, wV_nd (h n (List.mem_cons_self ..)) h3 kw, flat_wV h3 kw (fun n hn => h n (List.mem_cons_of_mem _ hn))]
theorem wV_opn {ks : List (Str × Int)} {o : Opn} (hk : KsOk ks) (h : OpnOk ks o) : (opW o).map wV = opV o := by
  obtain ⟨m, hm, g0, g1, nl, hn⟩ := h.ex
  have m3 : m ≤ 3 := (hk.num _ hm).2
  simp only [opW, opV, List.map_append, List.map_cons, List.map_nil]
  rw [wV_lit (x := PySem.Str.ofString "opening"), wV_ww h.ww, wV_ww (hk.ww _ hm), wV_num g0 (by omega), flat_wV m3 hk.ww hn]
end K06

set_option Elab.async false
set_option linter.all false
set_option maxRecDepth 100000
set_option maxHeartbeats 4000000
/-! Book.read. -/
namespace K06
open PySem PySem.Spec PyProof.Rows L2 Mine TL SkE StX
abbrev sRead : Stmt := inClass (top 16) 3
abbrev nRead : List Str := ["cls", "text", "kinds", "openings", "number", "line", "parts", "word"]
theorem scRead : FnScope nRead ["cls", "text"] (defScope sRead) := ⟨rfl, rfl, rfl, by decide +kernel, rfl, by decide +kernel, by decide +kernel⟩
/-- d.get(key, other), within a comprehension, too -/
theorem pe_kgetK {X : Cx} {K : PySem.W.Frag} {w : World} {d : Addr} {es : Array DictEntry} {n : Nat} {o e f : Expr} {apos cpos : Pos} {td ty tx : TE} (D : KDict K w d es n) (hK : X.K = K) (hw : X.w = w) (ho : PE X o td) (he : PE X e ty) (hf : PE X f tx) (m : M2 X o "get" apos e f cpos) :
    PE X (.Call (.Attribute o "get" apos) [e, f] [] cpos) (tKGet K d td ty tx) := by
  subst hK
  subst hw
  exact pe_kget D ho he hf m
structure TxtRd (K : PySem.W.Frag) (w : World) (mg : Str → Option Value) (C fKL fOL fI nd : Addr) (es : Array DictEntry) (nn : Nat) : Prop where
  isi : mg "isinstance" = none
  str : mg "str" = none
  tuple : mg "tuple" = none
  enum : mg "enumerate" = none
  gN : ∃ u, mg "NUMERALS" = some u ∧ RelV (.ref nd) u
  kd : KDict K w nd es nn
  find : ∀ x : Str, (nmOf x = none → PySem.W.nsIn K nd x = some none) ∧ ∀ i, nmOf x = some i → ∃ u, PySem.W.nsIn K nd x = some (some u) ∧ RelV (.int i) u
  gKL : mg "_is_kind_line" = some (.ref fKL)
  kKL : PySem.W.keepIn K (.ref fKL) = true
  gOL : mg "_is_opening_line" = some (.ref fOL)
  kOL : PySem.W.keepIn K (.ref fOL) = true
  gI : mg "_opening_in" = some (.ref fI)
  kI : PySem.W.keepIn K (.ref fI) = true
def spRead (K : PySem.W.Frag) (C : Addr) : Sp := fun vs H Q _ => ∃ (ks : List (Str × Int)) (os : List Opn), vs = [.ref C, .str (page ks os)] ∧ KsOk ks ∧ OsOk ks os ∧
  ∀ x H', Same H H' → BkAt K C H' x ks os → Q (.ref x) H'
/-- the turns of enumerate(xs, start=c) -/
theorem walk_enumS {K : PySem.W.Frag} {c : Int} {a : Addr} {xs : List V} : Walk (IteS K c a) xs.length (fun H => SqL K H a xs) (fun i H v H' => ∃ T x, v = .ref T ∧ H T = none ∧ H' = upd H T (.tup [.int (c + (i : Nat)), x]) ∧ xs[i]? = some x) :=
  ⟨fun i _ hi q => ⟨xs, xs[i], q, by simp [hi]⟩, fun _ q => ⟨xs, q, Nat.le_refl _⟩, fun i H v H' _ q ⟨T, x, e, h1, h2, h3⟩ => ⟨T, x, e, h1, h2, h3 xs q⟩⟩
theorem page_len {ks : List (Str × Int)} {os : List Opn} (kok : KsOk ks) (ook : OsOk ks os) : (page ks os).length ≤ 5000 := by
  obtain ⟨a, b⟩ := page_l kok ook
  have h1 : (Str.join nlS (pageL ks os)).length ≤ ((pageL ks os).map (·.length)).sum + (pageL ks os).length * nlS.length := StrLaws.join_length_le nlS _
  have h2 := sum_le a
  have e2 : nlS.length = 1 := by decide +kernel
  unfold page
  rw [join_eq]
  rw [e2] at h1
  omega
/-- the words of line i -/
theorem line_at {ks : List (Str × Int)} {os : List Opn} (kok : KsOk ks) (ook : OsOk ks os) {i : Nat} {ln : Str} (h : (pageL ks os)[i]? = some ln) : ∃ ws, ln = lineOf ws ∧ ws ≠ [] ∧ (∀ x ∈ ws, Wd x) ∧ ws.length ≤ 10 ∧
    ((∃ p, ks[i]? = some p ∧ ws = kindW p) ∨ (∃ o, ks.length ≤ i ∧ os[i - ks.length]? = some o ∧ ws = opW o)) := by
  unfold pageL at h
  by_cases lt : i < ks.length
  · rw [List.getElem?_append_left (by rw [List.length_map]; exact lt), List.getElem?_map] at h
    obtain ⟨p, hp, rfl⟩ := Option.map_eq_some_iff.mp h
    exact ⟨kindW p, rfl, by simp [kindW], kindW_wd kok (List.mem_of_getElem? hp), by simp [kindW], .inl ⟨p, hp, rfl⟩⟩
  · rw [List.getElem?_append_right (by rw [List.length_map]; omega), List.getElem?_map, List.length_map] at h
    obtain ⟨o, ho, rfl⟩ := Option.map_eq_some_iff.mp h
    have oo1 := ook.each o (List.mem_of_getElem? ho)
    exact ⟨opW o, rfl, by simp [opW], opW_wd kok oo1, opW_len oo1, .inr ⟨o, by omega, ho, rfl⟩⟩
theorem asc_last {α : Type} {f : α → Str} {xs : List α} (h : Asc (xs.map f)) {i : Nat} {p l : α} (hp : xs[i]? = some p) (e : (xs.take i).getLast? = some l) : (f l).cps.toList < (f p).cps.toList := by
  have lt : i < xs.length := (List.getElem?_eq_some_iff.mp hp).1
  cases i with
  | zero => simp at e
  | succ j =>
    rw [List.getLast?_eq_getElem?, List.length_take, Nat.min_eq_left (by omega), Nat.add_sub_cancel, List.getElem?_take_of_lt (by omega)] at e
    exact h j _ _ (by rw [List.getElem?_map, e]; rfl) (by rw [List.getElem?_map, hp]; rfl)
section
variable {P : Program} {w : World} {K : PySem.W.Frag} {mg : Str → Option Value} {base : Heap}
theorem ok_read {f C fKL fOL fI fB nd : Addr} {es : Array DictEntry} {nn : Nat} {fd dK dO dI dB : FuncData} (F : Fun K "read" "Book.read" sRead f fd) (T : TxtRd K w mg C fKL fOL fI nd es nn)
    (GK : FnOk P w K mg base CX0 3 fKL dK ["kinds", "parts"] spKL) (bK : Binds K dK ["kinds", "parts"] [])
    (GO : FnOk P w K mg base CX0 5 fOL dO ["kinds", "openings", "parts"] spOL) (bO : Binds K dO ["kinds", "openings", "parts"] [])
    (GI : FnOk P w K mg base CX0 1 fI dI ["parts"] spOIn) (bI : Binds K dI ["parts"] [])
    (M : Mk K C fB) (GB : FnOk P w K mg base CX0 6 fB dB ["self", "kinds", "openings"] (spInit K C)) (bB : Binds K dB ["self", "kinds", "openings"] []) :
    FnOk P w K mg base CX0 8 f fd ["cls", "text"] (spRead K C) := by
  refine F.ok scRead (fun vs H Q E h => ?_) (fun cdv A outer s H vs Q E hr h => ?_)
  · obtain ⟨_, _, rfl, _⟩ := h
    rfl
  · obtain ⟨ks, os, rfl, kok, ook, k⟩ := h
    have hr3 : Room 3 _ := hr.mono (by decide)
    have hr5 : Room 5 _ := hr.mono (by decide)
    have hr1 : Room 1 _ := hr.mono (by decide)
    refine ⟨_, pss_cons (ps_if (pt_not (pt_val (pe_callB call_isi (by rfl) T.isi (by decide +kernel) (pa_cons (pv 1) (pa_cons (pe_bltn (v := .ty "str") rfl T.str (by decide +kernel) rfl) pa_nil))))) (pss_one ps_dead) pss_nil)
      (pss_cons (ps_set (i := 2) scRead.nd rfl (.inl rfl) (pe_lst pa_nil))
      (pss_cons (ps_set (i := 3) scRead.nd rfl (.inl rfl) (pe_lst pa_nil))
      (pss_cons (ps_for PassesOwn.never rfl (pi_enumS (c := 1) rfl T.enum (pa_cons (pe_m1 PySem.F.slot_str_split PySem.F.type_str_split mt_split (pv 1) pe_str) pa_nil) (pk_cons pe_int pk_nil)) (pg_tup rfl (pgs_cons (pg_name (i := 4) scRead.nd rfl (.inl rfl)) (pgs_cons (pg_name (i := 5) scRead.nd rfl (.inl rfl)) pgs_nil)))
        (pss_cons (ps_setLc (i := 6) (own := [("word", 7)]) (g := gName 7) (tt := tYes) rfl scRead.nd rfl rfl (sw_true rfl rfl rfl (by decide +kernel)) (pi_list (pe_m1 PySem.F.slot_str_split PySem.F.type_str_split mt_split (pv 5) pe_str))
          (blkOk_by (own := [("word", 7)]) (N := nRead) (sc := defScope sRead) (by decide +kernel))
          (fun _ _ _ _ _ => pg_name (i := 7) scRead.nd rfl (Or.inl rfl)) (fun _ _ _ _ _ => pts_nil) (fun _ _ _ _ _ => pe_kgetK T.kd rfl rfl (C8.pe_gc (v := .ref nd) rfl T.gN) (pv 7) (pv 7) ⟨rfl, by rfl, by rfl, rfl⟩))
        (pss_one (ps_if (PW.pt (pw_and (pt_not (pt_truth (pv 3) (by intro _; rfl))) (pw_and1 (pt_val (pe_call GK hr3 rfl T.gKL T.kKL bK .nil pass0 (pa_cons (pv 2) (pa_cons (pv 6) pa_nil)))))))
          (pss_one (ps_expr (pe_bm PySem.F.plainAttrs_list PySem.F.slot_list_append PySem.F.type_list_append mt_append (pv 2) (pa_cons (pe_callTy call_tuple_of (by rfl) T.tuple (by decide +kernel) (pa_cons (pe_slice sl_list (pv 6) (po_some pe_int) po_none) pa_nil)) pa_nil))))
          (pss_one (ps_if (pt_val (pe_call GO hr5 rfl T.gOL T.kOL bO .nil pass0 (pa_cons (pv 2) (pa_cons (pv 3) (pa_cons (pv 6) pa_nil)))))
            (pss_one (ps_expr (pe_bm PySem.F.plainAttrs_list PySem.F.slot_list_append PySem.F.type_list_append mt_append (pv 3) (pa_cons (pe_call GI hr1 rfl T.gI T.kI bI .nil pass0 (pa_cons (pv 6) pa_nil)) pa_nil))))
            (pss_one ps_dead)))))))
      (pss_one (ps_ret (pe_makeL M GB hr (pv 0) bB .nil pass0 (pa_cons (pe_callTy call_tupleF (by rfl) T.tuple (by decide +kernel) (pa_cons (pv 2) pa_nil)) (pa_cons (pe_callTy call_tuple_of (by rfl) T.tuple (by decide +kernel) (pa_cons (pv 3) pa_nil)) pa_nil)))))))), ?_⟩
    have sp : Txt.split (page ks os) (PySem.Str.ofString "\n") = pageL ks os := split_pg kok ook
    have pgl := page_len kok ook
    have pln := (page_l kok ook).2
    have kl := kok.len
    have ol := ook.len
    refine ⟨_, rfl, _, _, _, _, true, rfl, .ty "str", .base (.str _), kit_ty rfl, _, rfl, ite2 (fun z => absurd z (by decide)) (fun _ => ?_)⟩
    refine ⟨Nat.zero_le _, fun kp hkp => ⟨Nat.zero_le _, fun op hop => ?_⟩⟩
    have kop : kp ≠ op := ne_of_none upd_same hop
    refine ⟨_, rfl, ⟨_, rfl⟩, _, _, rfl, rfl, by decide +kernel, by rw [sizeLine_eq]; omega, fun L hL => ?_⟩
    rw [sp]
    have eop : upd (upd H kp (.lst [])) op (.lst []) op = some (.lst []) := upd_same
    have ekp : upd (upd H kp (.lst [])) op (.lst []) kp = some (.lst []) := (upd_ne kop).trans upd_same
    have opL : op ≠ L := ne_of_none eop hL
    have kpL : kp ≠ L := ne_of_none ekp hL
    refine ⟨L, _, rfl, SqL.of upd_same, rfl, SqL.of upd_same, by decide, by decide, ?_⟩
    refine for_it (walk_enumS (K := K) (c := 1) (a := L) (xs := (pageL ks os).map V.str)) (fun i σ H' => ∃ o4 o5 o6 o7 : Option V, σ = [some (.ref C), some (.str (page ks os)), some (.ref kp), some (.ref op), o4, o5, o6, o7] ∧
      KList H' kp (ks.take i) ∧ OList H' op (os.take (i - ks.length)) ∧ H' L = some (.lst ((pageL ks os).map V.str)) ∧ Same H H')
      ⟨_, _, _, _, rfl, ⟨[], (upd_ne kpL).trans ekp, .nil⟩, ⟨[], (upd_ne opL).trans eop, by rw [Nat.zero_sub]; exact .nil⟩, upd_same, same_new (same_new (same_new same_rfl hkp) hop) hL⟩ (fun i σ H' _ ⟨_, _, _, _, _, _, _, e, _⟩ => SqL.of e) ?_ ?_
    · rintro i x σ H1 H2 hi ⟨o4, o5, o6, o7, rfl, hk, hO, eL, s1⟩ ⟨T1, v, rfl, hT, rfl, hv⟩
      rw [List.getElem?_map] at hv
      obtain ⟨ln, hl, rfl⟩ := Option.map_eq_some_iff.mp hv
      obtain ⟨ws, rfl, wne, wwd, wl, hcase⟩ := line_at kok ook hl
      have lnl := (page_l kok ook).1 _ (List.mem_of_getElem? hl)
      have sT : Same H1 (upd H1 T1 (.tup [.int (1 + (i : Nat)), .str (lineOf ws)])) := same_new same_rfl hT
      refine ⟨T1, _, rfl, SqT.of upd_same, rfl, _, _, rfl, _, _, rfl, rfl, ?_⟩
      generalize upd H1 T1 (.tup [.int (1 + (i : Nat)), .str (lineOf ws)]) = H2 at sT
      have sl : Txt.split (lineOf ws) (PySem.Str.ofString " ") = ws := split_line wne wwd
      refine ⟨_, rfl, ⟨_, rfl⟩, _, _, rfl, rfl, by decide +kernel, by rw [sizeLine_eq]; omega, fun q hq => ?_⟩
      rw [sl]
      refine ⟨q, rfl, ⟨_, SqL.of upd_same⟩, fun E1 hE => ?_⟩
      have sq2 : Same H2 (upd H2 q (.lst (ws.map V.str))) := same_new same_rfl hq
      have eq2 : upd H2 q (.lst (ws.map V.str)) q = some (.lst (ws.map V.str)) := upd_same
      generalize upd H2 q (.lst (ws.map V.str)) = H3 at sq2 eq2 hE
      have sE : ∀ {xs : List V}, Same H3 (upd H3 E1 (.lst xs)) := same_new same_rfl hE
      refine lc_list (K := K) (a := q) (xs := ws.map V.str) (fun t H' => H' = upd H3 E1 (.lst ((ws.take t).map wV))) rfl (fun t H' _ e => by rw [e]; exact SqL.of (sE _ _ eq2)) ?_ ?_
      · rintro t y H4 ht rfl
        rw [List.getElem?_map] at ht
        obtain ⟨x, hx, rfl⟩ := Option.map_eq_some_iff.mp ht
        refine ⟨rfl, ?_⟩
        refine yes_if ?_
        have fin : ∃ acc, upd H3 E1 (.lst ((ws.take t).map wV)) E1 = some (.lst acc) ∧ acc.length < sizeLine ∧ upd (upd H3 E1 (.lst ((ws.take t).map wV))) E1 (.lst (acc ++ [wV x])) = upd H3 E1 (.lst ((ws.take (t + 1)).map wV)) := by
          refine ⟨_, upd_same, ?_, ?_⟩
          · rw [List.length_map, List.length_take, sizeLine_eq]
            omega
          · rw [upd_upd, List.take_add_one, hx]
            simp
        refine ⟨rfl, _, rfl, _, rfl, x, rfl, ?_⟩
        have f := T.find x
        cases e : nmOf x with
        | none =>
          rw [wV_none e] at fin
          exact .inl ⟨f.1 e, fin⟩
        | some j =>
          have ew : wV x = .int j := by
            unfold wV
            rw [e]
          rw [ew] at fin
          obtain ⟨u, f1, f2⟩ := f.2 j e
          exact .inr ⟨u, .int j, f1, f2, fin⟩
      · rintro H4 rfl
        rw [List.length_map, List.take_of_length_le (Nat.le_refl _)]
        have eE : upd H3 E1 (.lst (ws.map wV)) E1 = some (.lst (ws.map wV)) := upd_same
        have s4 : Same H1 (upd H3 E1 (.lst (ws.map wV))) := same_tr (same_tr sT sq2) sE
        show Ends.nx _ _ (upd H3 E1 (.lst (ws.map wV)))
        generalize upd H3 E1 (.lst (ws.map wV)) = H4 at eE s4
        have hk4 := hk.same s4
        have hO4 := hO.same s4
        have eL4 := s4 _ _ eL
        have s5 := same_tr s1 s4
        obtain ⟨as, eo, po⟩ := id hO4
        have al := po.length
        refine ⟨_, rfl, _, .inl ⟨_, SqL.of eo, rfl⟩, ?_⟩
        have hop0 : H op = none := by
          rw [upd_ne kop.symm] at hop
          exact hop
        rcases hcase with ⟨p, hp, rfl⟩ | ⟨o, ge, ho, rfl⟩
        · have lt : i < ks.length := (List.getElem?_eq_some_iff.mp hp).1
          have z0 : i - ks.length = 0 := by omega
          have z1 : i + 1 - ks.length = 0 := by omega
          rw [z0] at al
          have : as = [] := List.length_eq_zero_iff.mp al
          subst this
          have hm := List.mem_of_getElem? hp
          have n := kok.num p hm
          refine ite2 (fun _ => ?_) (fun z => absurd rfl z)
          rw [wV_kind (kok.ww p hm) (by omega) (by omega)] at eE
          refine ⟨_, rfl, _, rfl, kp, E1, _, _, rfl, eE, hk4, by rw [List.length_take]; omega, .inl ⟨p, rfl, kok.ww p hm, n.1, n.2, fun l e => asc_last (f := fun z : Str × Int => z.1) kok.asc hp e, fun H5 s6 => ⟨_, rfl, ite2 (fun _ => ?_) (fun z => absurd rfl z)⟩⟩⟩
          obtain ⟨bs, ek, pk⟩ := hk4.same s6
          have bl := pk.length
          refine ⟨_, rfl, .inl ⟨rfl, _, SqL.of ek⟩, _, rfl, _, rfl, E1, _, rfl, SqL.of (s6 _ _ eE), fun l hl => ?_⟩
          rw [cut1]
          have dr : List.drop 1 [V.str (PySem.Str.ofString "kind"), V.str p.1, V.int p.2] = [V.str p.1, V.int p.2] := rfl
          rw [dr]
          refine ⟨l, _, rfl, .inl ⟨SqL.of upd_same, fun t ht => ?_⟩⟩
          have sG := same_new (o := .tup [.str p.1, .int p.2]) (same_new (o := .lst [.str p.1, .int p.2]) (same_rfl (H := H5)) hl) ht
          have eGt : upd (upd H5 l (.lst [.str p.1, .int p.2])) t (.tup [.str p.1, .int p.2]) t = some (.tup [.str p.1, .int p.2]) := upd_same
          generalize upd (upd H5 l (.lst [.str p.1, .int p.2])) t (.tup [.str p.1, .int p.2]) = G at sG eGt
          have ekG := sG _ _ ek
          refine ⟨kp, _, _, rfl, rfl, ekG, by rw [List.length_map, bl, List.length_take, sizeLine_eq]; omega, ?_⟩
          have tt : ∀ (b : Addr) (xs ys : List V), G b = some (.tup xs) → upd G kp (.lst ys) b = some (.tup xs) := fun b xs ys e => (upd_ne (ne_of e ekG (by intro z; cases z))).trans e
          refine ⟨_, _, _, _, rfl, ⟨bs ++ [t], by rw [upd_same, List.map_append]; rfl, ?_⟩, ⟨[], (upd_ne kop.symm).trans (sG _ _ (s6 _ _ eo)), by rw [z1]; exact .nil⟩, (upd_ne (Ne.symm kpL)).trans (sG _ _ (s6 _ _ eL4)), fun b o' e => (upd_ne (ne_of_none e hkp)).trans (sG _ _ (s6 _ _ (s5 _ _ e)))⟩
          rw [List.take_add_one, hp]
          exact paired_snoc (R := fun a (q : Str × Int) => upd G kp (.lst (bs.map V.ref ++ [.ref t])) a = some (.tup [.str q.1, .int q.2])) (tt _ _ _ eGt) (paired_mono (fun _ _ e => tt _ _ _ (sG _ _ e)) pk)
        · have hkk : KList H4 kp ks := by
            rw [List.take_of_length_le ge] at hk4
            exact hk4
          have oo1 := ook.each o (List.mem_of_getElem? ho)
          obtain ⟨_, _, _, _, nl, _⟩ := oo1.ex
          rw [wV_opn kok oo1] at eE
          refine ite2 (fun _ => ?_) (fun _ => ?_)
          · refine ⟨_, rfl, _, rfl, kp, E1, _, _, rfl, eE, hkk, by omega, .inr ⟨_, rfl, fun H5 s6 => ⟨_, rfl, ite2 (fun z => absurd z (by decide)) (fun _ => ?_)⟩⟩⟩
            refine ⟨_, rfl, _, rfl, _, rfl, kp, op, E1, ks, os.take (i - ks.length), o, rfl, s6 _ _ eE, hkk.same s6, kok, hO4.same s6, by rw [List.length_take]; omega, oo1, fun l e => asc_last (f := fun z : Opn => z.w) ook.asc ho e, fun H6 s7 => ⟨_, rfl, ite2 (fun _ => ?_) (fun z => absurd rfl z)⟩⟩
            obtain ⟨as6, eo6, _⟩ := hO4.same (same_tr s6 s7)
            refine ⟨_, rfl, .inl ⟨rfl, _, SqL.of eo6⟩, _, rfl, E1, o, rfl, s7 _ _ (s6 _ _ eE), nl, fun r H7 s8 hit => ?_⟩
            have s9 := same_tr (same_tr s6 s7) s8
            obtain ⟨as7, eo7, po7⟩ := hO4.same s9
            obtain ⟨bs7, ek7, pk7⟩ := hkk.same s9
            have al7 := po7.length
            refine ⟨op, _, _, rfl, rfl, eo7, by rw [List.length_map, al7, List.length_take, sizeLine_eq]; omega, ?_⟩
            have tt : ∀ (b : Addr) (xs ys : List V), H7 b = some (.tup xs) → upd H7 op (.lst ys) b = some (.tup xs) := fun b xs ys e => (upd_ne (ne_of e eo7 (by intro z; cases z))).trans e
            refine ⟨_, _, _, _, rfl, ⟨bs7, (upd_ne kop).trans ek7, ?_⟩, ⟨as7 ++ [r], by rw [upd_same, List.map_append]; rfl, ?_⟩, (upd_ne (Ne.symm opL)).trans (s9 _ _ eL4), fun b o' e => (upd_ne (ne_of_none e hop0)).trans (same_tr s5 s9 _ _ e)⟩
            · rw [List.take_of_length_le (by omega)]
              exact paired_mono (fun _ _ e => tt _ _ _ e) pk7
            · have e1 : i + 1 - ks.length = (i - ks.length) + 1 := by omega
              rw [e1, List.take_add_one, ho]
              exact paired_snoc (R := ItemAt (upd H7 op (.lst (as7.map V.ref ++ [.ref r])))) (ItemAt.mono (fun b xs e => tt b xs _ e) hit) (paired_mono (fun _ _ z => ItemAt.mono (fun b xs e => tt b xs _ e) z) po7)
          · have s6 : Same H4 H4 := same_rfl
            refine ite2 (fun z => absurd z (by decide)) (fun _ => ?_)
            refine ⟨_, rfl, _, rfl, _, rfl, kp, op, E1, ks, os.take (i - ks.length), o, rfl, s6 _ _ eE, hkk.same s6, kok, hO4.same s6, by rw [List.length_take]; omega, oo1, fun l e => asc_last (f := fun z : Opn => z.w) ook.asc ho e, fun H6 s7 => ⟨_, rfl, ite2 (fun _ => ?_) (fun z => absurd rfl z)⟩⟩
            obtain ⟨as6, eo6, _⟩ := hO4.same (same_tr s6 s7)
            refine ⟨_, rfl, .inl ⟨rfl, _, SqL.of eo6⟩, _, rfl, E1, o, rfl, s7 _ _ (s6 _ _ eE), nl, fun r H7 s8 hit => ?_⟩
            have s9 := same_tr (same_tr s6 s7) s8
            obtain ⟨as7, eo7, po7⟩ := hO4.same s9
            obtain ⟨bs7, ek7, pk7⟩ := hkk.same s9
            have al7 := po7.length
            refine ⟨op, _, _, rfl, rfl, eo7, by rw [List.length_map, al7, List.length_take, sizeLine_eq]; omega, ?_⟩
            have tt : ∀ (b : Addr) (xs ys : List V), H7 b = some (.tup xs) → upd H7 op (.lst ys) b = some (.tup xs) := fun b xs ys e => (upd_ne (ne_of e eo7 (by intro z; cases z))).trans e
            refine ⟨_, _, _, _, rfl, ⟨bs7, (upd_ne kop).trans ek7, ?_⟩, ⟨as7 ++ [r], by rw [upd_same, List.map_append]; rfl, ?_⟩, (upd_ne (Ne.symm opL)).trans (s9 _ _ eL4), fun b o' e => (upd_ne (ne_of_none e hop0)).trans (same_tr s5 s9 _ _ e)⟩
            · rw [List.take_of_length_le (by omega)]
              exact paired_mono (fun _ _ e => tt _ _ _ e) pk7
            · have e1 : i + 1 - ks.length = (i - ks.length) + 1 := by omega
              rw [e1, List.take_add_one, ho]
              exact paired_snoc (R := ItemAt (upd H7 op (.lst (as7.map V.ref ++ [.ref r])))) (ItemAt.mono (fun b xs e => tt b xs _ e) hit) (paired_mono (fun _ _ z => ItemAt.mono (fun b xs e => tt b xs _ e) z) po7)
    · rintro σ H1 ⟨o4, o5, o6, o7, rfl, hk, hO, eL, s1⟩
      have pll : ((pageL ks os).map V.str).length = ks.length + os.length := by simp [pageL]
      rw [pll, List.take_of_length_le (by omega)] at hk
      rw [pll, List.take_of_length_le (by omega)] at hO
      obtain ⟨bs, ek, pk⟩ := hk
      obtain ⟨as, eo, po⟩ := hO
      refine ⟨_, rfl, rfl, _, rfl, kp, _, rfl, SqL.of ek, fun l ob hl hob => ?_⟩
      have sl := same_new (o := .frz ob (.tup (bs.map V.ref))) (same_rfl (H := H1)) hl
      refine ⟨_, rfl, op, _, rfl, .inl ⟨SqL.of (sl _ _ eo), fun r hr1 => ?_⟩⟩
      have sr := same_new (o := .tup (as.map V.ref)) sl hr1
      refine made (kk := l) (oo := r) (ps := bs) (as := as) ⟨.inl ⟨ob, (upd_ne (ne_of_none upd_same hr1)).trans upd_same, hob⟩, paired_mono (fun _ _ e => SqT.of (sr _ _ e)) pk⟩ kok ⟨SqT.of upd_same, paired_mono (fun _ _ z => (ItemAt.mono (fun b xs e => sr b _ e) z).opn) po⟩ ook fun x dx H' s' hx hx' => ?_
      exact k x H' (same_tr (same_tr s1 sr) s') ⟨⟨dx, l, r, bs, as, hx', ⟨.inl ⟨ob, s' _ _ ((upd_ne (ne_of_none upd_same hr1)).trans upd_same), hob⟩, paired_mono (fun _ _ e => SqT.of (s' _ _ (sr _ _ e))) pk⟩, ⟨SqT.of (s' _ _ upd_same), paired_mono (fun _ _ z => (ItemAt.mono (fun b xs e => s' b _ (sr b _ e)) z).opn) po⟩⟩, kok, ook⟩
end
end K06

set_option Elab.async false
set_option linter.all false
set_option maxRecDepth 100000
set_option maxHeartbeats 4000000
/-! The text of a list or a tuple, whose items stand anywhere: tracked, locked, or left by the top. -/
namespace Mine
open PySem PySem.Spec PyProof.Rows L2
section
variable {X : Cx} {pins : List (Addr × Obj)} {σ : L2.St} {H : Hp} {s : Shared}
mutual
theorem dp_rk (I : L2.Inv X pins σ H s) : ∀ (d : PyData) (v : V) (u : Value), Dp X.K H v d → L2.RelV v u → d.showable = true → d.shown.length ≤ sizeLine → Rk X.prog X.w s.heap u d
  | .none, _, _, h, r, _, _ => by
    cases h; cases r
    exact Rk.leaf .none (by simp only [PyData.shown]; exact ReprIs.none)
  | .bool b, _, _, h, r, _, _ => by
    cases h; cases r
    exact Rk.leaf (.bool b) (by simp only [PyData.shown]; exact ReprIs.bool b)
  | .int i, _, _, h, r, ok, _ => by
    cases h
    obtain ⟨t, rfl⟩ := r
    exact Rk.leaf (.int i t) (by simp only [PyData.shown]; exact ReprIs.int t (by simpa [PyData.showable] using ok))
  | .str x, _, _, h, r, _, hz => by
    cases h
    obtain ⟨t, rfl⟩ := r
    exact Rk.leaf (.str x t) (by simp only [PyData.shown]; exact ReprIs.str x t (by simpa only [PyData.shown] using hz))
  | .list ds, _, _, h, r, ok, hz => by
    cases h with
    | lst e r' =>
      cases r
      obtain ⟨its, rv, ⟨o, n, he, hc, _, hd⟩, _⟩ := I.list e
      have hz' : (listText (PyData.shownAll ds)).length ≤ sizeLine := by simpa only [PyData.shown] using hz
      exact Rk.list he hc hd (dps_rks I ds _ its r' rv (by simpa [PyData.showable] using ok) fun t ht => Nat.le_trans (listText_mem_le ht) hz')
  | .tuple ds, _, _, h, r, ok, hz => by
    cases h with
    | tup e r' =>
      cases r
      obtain ⟨its, rv, ⟨o, he, hc, n, hd⟩, _⟩ := I.tuple e
      have hz' : (tupleText (PyData.shownAll ds)).length ≤ sizeLine := by simpa only [PyData.shown] using hz
      exact Rk.tuple he hc hd (dps_rks I ds _ its r' rv (by simpa [PyData.showable] using ok) fun t ht => Nat.le_trans (tupleText_mem_le ht) hz')
  | .dict _, _, _, h, _, _, _ => by cases h
theorem dps_rks (I : L2.Inv X pins σ H s) : ∀ (ds : List PyData) (vs : List V) (us : List Value), DpAll X.K H vs ds → L2.Vals vs us → PyData.showableAll ds = true → (∀ t ∈ PyData.shownAll ds, t.length ≤ sizeLine) → Rks X.prog X.w s.heap us ds
  | [], _, _, h, r, _, _ => by
    cases h; cases r
    exact ⟨⟨_, .nil⟩, [], (fun _ z => nomatch z), .nil⟩
  | d :: ds, _, _, h, r, ok, hz => by
    have ok' : d.showable = true ∧ PyData.showableAll ds = true := by simpa [PyData.showableAll] using ok
    cases h with
    | cons h1 h2 =>
      cases r with
      | cons r1 r2 =>
        exact Rks.cons (dp_rk I d _ _ h1 r1 ok'.1 (hz _ (by simp only [PyData.shownAll]; exact List.mem_cons_self ..))) (dps_rks I ds _ _ h2 r2 ok'.2 fun t ht => hz t (by simp only [PyData.shownAll]; exact List.mem_cons_of_mem _ ht))
end
end
/-- repr of a list or a tuple -/
def rReprP (K : PySem.W.Frag) : List V → Hp → VK → Prop := fun xs H Q => ∃ (a : Addr) (vs : List V) (ds : List PyData), xs = [.ref a] ∧ DpAll K H vs ds ∧
  ((SqL K H a vs ∧ Shows sizeLine 20 (.list ds) ∧ Q (.str (PyData.shown (.list ds))) H) ∨ (SqT K H a vs ∧ Shows sizeLine 20 (.tuple ds) ∧ Q (.str (PyData.shown (.tuple ds))) H))
theorem call_reprP {X : Cx} (hg : X.A.guards = some []) (hu : X.A.units + 40 < cLine) : CallR X (.builtin "repr") (rReprP X.K) := by
  intro pins s σ H xs us Q I r h
  obtain ⟨a, vs, ds, rfl, r', h⟩ := h
  obtain ⟨u, rfl, rv⟩ := vals1 r
  cases (show u = Value.ref a from rv)
  rcases h with ⟨e, S, q⟩ | ⟨e, S, q⟩
  · obtain ⟨its, rvs, ⟨o, n, he, hc, hdn, hd⟩, _⟩ := I.list e
    have hz' : (listText (PyData.shownAll ds)).length ≤ sizeLine := by simpa only [PyData.shown] using S.len
    have rks := dps_rks I ds _ its r' rvs (by simpa [PyData.showable] using S.ok) fun t ht => Nat.le_trans (listText_mem_le ht) hz'
    obtain ⟨⟨as, ra⟩, bs, m, k⟩ := rks
    have rd : Reads s.heap (.ref a) (.list ds) (a :: as) := .list he hc hd ra
    have out : a ∉ bs := not_mem_of_deeper rd (by simp only [PyData.depth]; omega) m
    have dep : PyData.depthAll ds + 1 ≤ 20 := by simpa only [PyData.depth] using S.dep
    have fin : ∀ h' u tk, (∀ b o, s.heap.get? b = some o → h'.get? b = some o) → L2.EP X pins σ Q (.str (PyData.shown (.list ds)) u) { s with heap := h', toks := tk } := fun h' u tk kp => ⟨.str _, H, I.kept kp, ⟨_, rfl⟩, q⟩
    refine call_repr_slot (by omega) ⟨_, he, hc⟩ PySem.F.slot_list_repr.toG ?_
    cases its with
    | nil =>
      cases ra
      refine call_list_repr_empty ⟨_, he, hc⟩ he hd ⟨_, _, rfl, ?_⟩
      have e0 : PyData.shown (.list []) = ("[]" : Str) := by simp only [PyData.shown, PyData.shownAll, listText_nil]
      rw [← e0]
      exact fin _ _ _ fun _ _ z => z
    | cons x l =>
      refine call_list_reprK he hc hd out (by simpa using k.length_eq) (fun i y e => k.item i y (by simpa using e)) (A := X.A.in1) hg (fun b _ => Clear.nil b) (by show X.A.units + 1 + _ < _; omega) (fun _ _ z => z) (fun h' u tk kp => ⟨_, _, rfl, ?_⟩) hz'
      have e0 : PyData.shown (.list ds) = listText (PyData.shownAll ds) := by simp only [PyData.shown]
      rw [← e0]
      exact fin h' u tk kp
  · obtain ⟨its, rvs, ⟨o, he, hc, n, hd⟩, _⟩ := I.tuple e
    have hz' : (tupleText (PyData.shownAll ds)).length ≤ sizeLine := by simpa only [PyData.shown] using S.len
    have rks := dps_rks I ds _ its r' rvs (by simpa [PyData.showable] using S.ok) fun t ht => Nat.le_trans (tupleText_mem_le ht) hz'
    obtain ⟨⟨as, ra⟩, bs, m, k⟩ := rks
    have rd : Reads s.heap (.ref a) (.tuple ds) as := .tuple he hc hd ra
    have out : a ∉ bs := not_mem_of_deeper rd (by simp only [PyData.depth]; omega) m
    have dep : PyData.depthAll ds + 1 ≤ 20 := by simpa only [PyData.depth] using S.dep
    have fin : ∀ h' u tk, (∀ b o, s.heap.get? b = some o → h'.get? b = some o) → L2.EP X pins σ Q (.str (PyData.shown (.tuple ds)) u) { s with heap := h', toks := tk } := fun h' u tk kp => ⟨.str _, H, I.kept kp, ⟨_, rfl⟩, q⟩
    refine call_repr_slot (by omega) ⟨_, he, hc⟩ PySem.F.slot_tuple_repr ?_
    refine call_tuple_reprK he hc hd out (by simpa using k) (A := X.A.in1) hg (fun b _ => Clear.nil b) (by show X.A.units + 1 + _ < _; omega) (fun _ _ z => z) (fun h' u tk kp => ⟨_, _, rfl, ?_⟩) hz'
    have e0 : PyData.shown (.tuple ds) = tupleText (PyData.shownAll ds) := by simp only [PyData.shown]
    rw [← e0]
    exact fin h' u tk kp
/-! tracked data is data that stands anywhere -/
mutual
theorem dp_of {K : PySem.W.Frag} {H : Hp} : ∀ (d : PyData) (v : V), d.canLay0 = true → DK H v d → Dp K H v d
  | .none, _, _, h => by cases h; exact .non
  | .bool b, _, _, h => by cases h; exact .bl b
  | .int i, _, _, h => by cases h; exact .int i
  | .str x, _, _, h => by cases h; exact .str x
  | .list ds, _, l, h => by
    cases h with
    | lst e r => exact .lst (SqL.of e) (dps_of ds _ (by simpa only [PyData.canLay0] using l) r)
  | .tuple ds, _, l, h => by
    cases h with
    | tup e r => exact .tup (SqT.of e) (dps_of ds _ (by simpa only [PyData.canLay0] using l) r)
  | .dict _, _, l, _ => by simp [PyData.canLay0] at l
theorem dps_of {K : PySem.W.Frag} {H : Hp} : ∀ (ds : List PyData) (vs : List V), PyData.canLayAll0 ds = true → DKs H vs ds → DpAll K H vs ds
  | [], _, _, h => by cases h; exact .nil
  | d :: ds, _, l, h => by
    have l' : d.canLay0 = true ∧ PyData.canLayAll0 ds = true := by simpa [PyData.canLayAll0] using l
    cases h with
    | cons h1 h2 => exact .cons (dp_of d _ l'.1 h1) (dps_of ds _ l'.2 h2)
end
end Mine

set_option Elab.async false
set_option linter.all false
set_option maxRecDepth 100000
set_option maxHeartbeats 4000000
/-! The law's look at one book. -/
namespace K06
open PySem PySem.Spec PyProof.Rows L2 Mine TL SkE StX ClX
abbrev sRight : Stmt := top 36
theorem ks_dp {K : PySem.W.Frag} {H : Hp} {kk : Addr} {ps : List Addr} {ks : List (Str × Int)} (h : KindsAt K H kk ps ks) : Dp K H (.ref kk) (.tuple (ks.map kD)) := .tup h.at_.sq (kd_dp h.each)
theorem os_dp {K : PySem.W.Frag} {H : Hp} {oo : Addr} {as : List Addr} {os : List Opn} (h : OpnsAt K H oo as os) : Dp K H (.ref oo) (.tuple (os.map opD)) := .tup h.at_ (ops_dp h.each)
theorem two_show {ks : List (Str × Int)} {os : List Opn} (kok : KsOk ks) (ook : OsOk ks os) : SA 3700 4 2 [.tuple (ks.map kD), .tuple (os.map opD)] := by
  have a := ks_show kok.ww kok.num (by have := kok.len; omega)
  have b := os_show ook.each kok.ww (fun p hp => (kok.num p hp).2) (by have := ook.len; omega)
  have := SA.cons (a.up (Nat.le_refl _) (by decide : 2 ≤ 4)) (SA.cons b SA.nil)
  exact ⟨this.ok, by have := this.len; omega, this.num, this.dep⟩
theorem two_list {ks : List (Str × Int)} {os : List Opn} (kok : KsOk ks) (ook : OsOk ks os) : Shows sizeLine 20 (.list [.tuple (ks.map kD), .tuple (os.map opD)]) := (two_show kok ook).list.up (by rw [sizeLine_eq]; decide) (by decide)
theorem two_tup {ks : List (Str × Int)} {os : List Opn} (kok : KsOk ks) (ook : OsOk ks os) : Shows sizeLine 20 (.tuple [.tuple (ks.map kD), .tuple (os.map opD)]) := (two_show kok ook).tuple.up (by rw [sizeLine_eq]; decide) (by decide)
theorem strOk_tl (x : Str) : PyData.strOk x = true ↔ ∀ c ∈ tl x, c < 0x110000 := by
  unfold PyData.strOk tl
  rw [Array.all_eq_true_iff_forall_mem]
  simp
theorem joinL_all {q : Nat → Prop} {S : List Nat} (hS : ∀ c ∈ S, q c) : ∀ {ps : List (List Nat)}, (∀ p ∈ ps, ∀ c ∈ p, q c) → ∀ c ∈ joinL S ps, q c
  | [], _ => by simp [joinL]
  | [p], h => h p (List.mem_cons_self ..)
  | p :: r :: t, h => by
    intro c hc
    have hc' : c ∈ p ++ (S ++ joinL S (r :: t)) := hc
    rcases List.mem_append.mp hc' with z | z
    · exact h p (List.mem_cons_self ..) c z
    · rcases List.mem_append.mp z with z | z
      · exact hS c z
      · exact joinL_all hS (fun x hx => h x (List.mem_cons_of_mem _ hx)) c z
theorem join_ok {S : Str} (hS : PyData.strOk S = true) {ls : List Str} (h : ∀ l ∈ ls, PyData.strOk l = true) : PyData.strOk (Txt.join S ls) = true := by
  rw [strOk_tl, join_eq, tl_join]
  refine joinL_all ((strOk_tl S).mp hS) fun p hp => ?_
  obtain ⟨x, hx, rfl⟩ := List.mem_map.mp hp
  exact (strOk_tl x).mp (h x hx)
theorem num_ok {j : Int} (h0 : 0 ≤ j) (h1 : j < 4) : PyData.strOk (num j) = true := by
  have : j = 0 ∨ j = 1 ∨ j = 2 ∨ j = 3 := by omega
  rcases this with rfl | rfl | rfl | rfl <;> decide +kernel
theorem kindW_ok {ks : List (Str × Int)} (h : KsOk ks) {p : Str × Int} (hp : p ∈ ks) : ∀ x ∈ kindW p, PyData.strOk x = true := by
  have n := h.num p hp
  intro x hx
  simp only [kindW, List.mem_cons, List.not_mem_nil, or_false] at hx
  rcases hx with rfl | rfl | rfl
  · decide +kernel
  · exact ww_ok _ (h.ww p hp)
  · exact num_ok (by omega) (by omega)
theorem ndW_ok {m : Int} {ks : List (Str × Int)} {n : Nd} (h : NdOk m ks n) (h3 : m ≤ 3) (kw : ∀ p ∈ ks, p.1 ∈ WW) : ∀ x ∈ ndW n, PyData.strOk x = true := by
  intro x hx
  cases n with
  | part j =>
    obtain ⟨j0, j1⟩ := h
    simp only [ndW, List.mem_cons, List.not_mem_nil, or_false] at hx
    rcases hx with rfl | rfl
    · decide +kernel
    · exact num_ok j0 (by omega)
  | around c j =>
    obtain ⟨c1, j0, j1⟩ := h
    simp only [ndW, List.mem_cons, List.not_mem_nil, or_false] at hx
    rcases hx with rfl | rfl | rfl
    · decide +kernel
    · exact ww_ok _ (kw _ c1)
    · exact num_ok j0 (by omega)
  | inside j c =>
    obtain ⟨c1, j0, j1⟩ := h
    simp only [ndW, List.mem_cons, List.not_mem_nil, or_false] at hx
    rcases hx with rfl | rfl | rfl
    · decide +kernel
    · exact num_ok j0 (by omega)
    · exact ww_ok _ (kw _ c1)
theorem opW_ok {ks : List (Str × Int)} (kok : KsOk ks) {o : Opn} (h : OpnOk ks o) : ∀ x ∈ opW o, PyData.strOk x = true := by
  obtain ⟨m, hm, g0, g1, nl, hn⟩ := h.ex
  have m3 : m ≤ 3 := (kok.num _ hm).2
  intro x hx
  rcases List.mem_append.mp hx with hx | hx
  · simp only [List.mem_cons, List.not_mem_nil, or_false] at hx
    rcases hx with rfl | rfl | rfl | rfl
    · decide +kernel
    · exact ww_ok _ h.ww
    · exact ww_ok _ (kok.ww _ hm)
    · exact num_ok g0 (by omega)
  · obtain ⟨n, hn1, hx⟩ := List.mem_flatMap.mp hx
    exact ndW_ok (hn n hn1) m3 kok.ww x hx
theorem page_ok {ks : List (Str × Int)} {os : List Opn} (kok : KsOk ks) (ook : OsOk ks os) : PyData.strOk (page ks os) = true := by
  refine join_ok (by decide +kernel) fun l hl => ?_
  rcases List.mem_append.mp hl with hl | hl
  · obtain ⟨p, hp, rfl⟩ := List.mem_map.mp hl
    exact join_ok (by decide +kernel) (kindW_ok kok hp)
  · obtain ⟨o, ho, rfl⟩ := List.mem_map.mp hl
    exact join_ok (by decide +kernel) (opW_ok kok (ook.each o ho))
def spRight (K : PySem.W.Frag) : Sp := fun vs H Q _ => ∃ (kk oo : Addr) (ps as : List Addr) (ks : List (Str × Int)) (os : List Opn), vs = [.ref kk, .ref oo] ∧ KindsAt K H kk ps ks ∧ KsOk ks ∧ OpnsAt K H oo as os ∧ OsOk ks os ∧
  ∀ H', Same H H' → Q (.bl true) H'
structure TxtRi (K : PySem.W.Frag) (mg : Str → Option Value) (C fP fS fE : Addr) : Prop where
  q : TxtEq K mg C
  repr : mg "repr" = none
  str : mg "str" = none
  gP : mg "_law_page" = some (.ref fP)
  kP : PySem.W.keepIn K (.ref fP) = true
  aS : PySem.W.findIn K (.ref C) "__str__" = some (some (.ref fS))
  iS : PySem.W.isFn K (.ref fS) = true
  aE : PySem.W.findIn K (.ref C) "__eq__" = some (some (.ref fE))
  iE : PySem.W.isFn K (.ref fE) = true
abbrev nRight : List Str := ["_law_makes", "_law_taking", "_law_code", "_law_page_here", "_law_made"]
theorem scRight : FnScope nRight ["_law_makes", "_law_taking"] (defScope sRight) := ⟨rfl, rfl, rfl, by decide +kernel, rfl, by decide +kernel, by decide +kernel⟩
section
variable {P : Program} {w : World} {K : PySem.W.Frag} {mg : Str → Option Value} {base : Heap}
/-- a book made, at its place -/
theorem made1 {C kk oo x dx : Addr} {ps as : List Addr} {ks : List (Str × Int)} {os : List Opn} {H : Hp} {R : Hp → Prop} {E : XK} (hk : KindsAt K H kk ps ks) (kok : KsOk ks) (ho : OpnsAt K H oo as os) (ook : OsOk ks os) (hx : H x = none) (hdx : H dx = none) (ne : dx ≠ x)
    (k : ∀ H', Same H H' → H' x = some (.ins C dx (fsB kk oo)) → R H') : spInit K C (.ref x :: ([.ref kk, .ref oo] ++ [])) (upd (upd H dx (.own x)) x (.ins C dx [])) (fun v H2 => v = .non ∧ R H2) E := by
  have s1 : Same H (upd (upd H dx (.own x)) x (.ins C dx [])) := fun b o e => (upd_ne (ne_of_none e hx)).trans ((upd_ne (ne_of_none e hdx)).trans e)
  exact ⟨x, dx, kk, oo, ps, as, ks, os, rfl, upd_same, hk.same s1, kok, ho.same s1, ook, fun H' keep hx' => ⟨rfl, k H' (fun b o e => keep b o (ne_of_none e hx) (s1 _ _ e)) hx'⟩⟩
theorem ok_right {f C fB fP fS fE fR pR : Addr} {mc : Value} {fd dB dP dS dE dR : FuncData} (F : Fun K "_law_right" "_law_right" sRight f fd) (T : TxtRi K mg C fP fS fE)
    (M : Mk K C fB) (GB : FnOk P w K mg base CX0 6 fB dB ["self", "kinds", "openings"] (spInit K C)) (bB : Binds K dB ["self", "kinds", "openings"] [])
    (GP : FnOk P w K mg base CX0 1 fP dP ["_law_makes", "_law_taking"] (spPage K)) (bP : Binds K dP ["_law_makes", "_law_taking"] [])
    (GS : FnOk P w K mg base CX0 2 fS dS ["self"] (spStr K C)) (bS : Binds K dS ["self"] [])
    (GE : FnOk P w K mg base CX0 1 fE dE ["self", "other"] (spEq (Alike K C))) (bE : Binds K dE ["self", "other"] [])
    (cr : CRead K C mc) (cm : CMet K C mc "read" pR fR) (GR : FnOk P w K mg base CX0 8 fR dR ["cls", "text"] (spRead K C)) (bR : Binds K dR ["cls", "text"] [])
    (bK : ∀ (s : Shared) (a u : Value), BindsTo s dR ⟨[a], [(PySem.Str.ofString "text", u)]⟩ ((["cls", "text"] : List Str).zip [a, u])) :
    FnG P w K mg base 10 f fd ["_law_makes", "_law_taking"] (spRight K) := by
  refine fnG_of F scRight (fun vs H Q E h => ?_) (fun cdv A outer s H vs Q E hr hgd h => ?_)
  · obtain ⟨_, _, _, _, _, _, rfl, _⟩ := h
    rfl
  · obtain ⟨kk, oo, ps, as, ks, os, rfl, hk, kok, hO, ook, k⟩ := h
    have hr1 : Room 1 _ := hr.mono (by decide)
    have hr4 : Room 4 _ := hr.mono (by decide)
    have hr7 : Room 7 _ := hr.mono (by decide)
    have hr8 : Room 8 _ := hr.mono (by decide)
    have hun : (A.deeper (envOfC "_law_right" (defScope sRight) s.heap.objs.size f cdv)).units + 40 < cLine := by
      have := hr.un
      omega
    refine ⟨_, pss_cons (ps_par (i := 2) (j := 3) rfl scRight.nd rfl rfl (by decide) rfl rfl (pa_cons (pe_make M GB hr7 rfl T.q.gB bB .nil pass0 (pa_cons (pv 0) (pa_cons (pv 1) pa_nil)))
        (pa_cons (pe_m1 PySem.F.slot_str_join PySem.F.type_str_join mt_join pe_str (pe_call GP hr1 rfl T.gP T.kP bP .nil pass0 (pa_cons (pv 0) (pa_cons (pv 1) pa_nil)))) pa_nil)) (by rfl))
      (pss_cons (ps_if (pt_cmpR (op_neD hr.units) (pe_lst (pa_cons (pe_callTy (call_strOwn GS hr4 T.aS T.iS bS) (by rfl) T.str (by decide +kernel) (pa_cons (pv 2) pa_nil)) (pa_cons (pe_callTy (call_strOwn GS hr4 T.aS T.iS bS) (by rfl) T.str (by decide +kernel) (pa_cons (pv 2) pa_nil)) pa_nil)))
          (pe_lst (pa_cons (pv 3) (pa_cons (pv 3) pa_nil))) (nomark _)) (pss_one (ps_ret pe_bl)) pss_nil)
      (pss_cons (ps_for PassesOwn.never rfl (pi_tup (pe_tup (pa_cons (pe_cmeth (pe_glob (v := .ref C) rfl T.q.gB rfl) cr cm (GR.raw bR .nil) hr8 pass0 (pa_cons (pv 3) pa_nil))
          (pa_cons (pe_cmethK (pe_glob (v := .ref C) rfl T.q.gB rfl) cr cm GR hr8 bK (pk_cons (pv 3) pk_nil)) pa_nil)))) (pg_name (i := 4) scRight.nd rfl (.inl rfl))
        (pss_cons (ps_if (PW.pt (pw_or (pt_not (pt_val (pe_callB call_isi (by rfl) T.q.isi (by decide +kernel) (pa_cons (pv 4) (pa_cons (pe_glob (v := .ref C) rfl T.q.gB rfl) pa_nil)))))
            (pw_or (pt_not (pt_cmpR (op_eqG (rcG_ins GE T.aE T.iE bE pass0) hr1) (pv 4) (pv 2) (nomark _)))
            (pw_or1 (pt_cmpR op_ne (pe_callB (call_reprP hgd hun) (by rfl) T.repr (by decide +kernel) (pa_cons (pe_lst (pa_cons (pe_fld (pv 4) rfl) (pa_cons (pe_fld (pv 4) rfl) pa_nil))) pa_nil))
              (pe_callB (call_reprP hgd hun) (by rfl) T.repr (by decide +kernel) (pa_cons (pe_lst (pa_cons (pv 0) (pa_cons (pv 1) pa_nil))) pa_nil)) (nomark _))))))
          (pss_one (ps_ret pe_bl)) pss_nil)
        (pss_one (ps_if (pt_cmpR op_ne (pe_callTy (call_strOwn GS hr4 T.aS T.iS bS) (by rfl) T.str (by decide +kernel) (pa_cons (pv 4) pa_nil)) (pv 3) (nomark _)) (pss_one (ps_ret pe_bl)) pss_nil))))
      (pss_one (ps_ret (pe_cmpR op_eq (pe_callB (call_reprP hgd hun) (by rfl) T.repr (by decide +kernel) (pa_cons (pe_lst (pa_cons (pe_fld (pv 2) rfl) (pa_cons (pe_fld (pv 2) rfl) pa_nil))) pa_nil))
        (pe_callB (call_reprP hgd hun) (by rfl) T.repr (by decide +kernel) (pa_cons (pe_lst (pa_cons (pv 0) (pa_cons (pv 1) pa_nil))) pa_nil)) (nomark _)))))), ?_⟩
    refine ⟨_, rfl, _, rfl, ?_⟩
    refine fun x dx nx ndx ne => made1 (E := E0) hk kok hO ook nx ndx ne fun H1 s1 hx => ?_
    have pgl := page_len kok ook
    have l2 : 2 ≤ sizeLine := by rw [sizeLine_eq]; decide
    have hk1 := hk.same s1
    have hO1 := hO.same s1
    refine ⟨⟨_, rfl⟩, _, rfl, _, rfl, kk, oo, ps, as, ks, os, rfl, hk1, kok, hO1, ook, fun q H2 s2 eq => ?_⟩
    obtain ⟨pl1, pl2⟩ := page_l kok ook
    refine ⟨_, q, pageL ks os, rfl, rfl, .inl (SqL.of eq), ?_, ?_⟩
    · have h1 := sum_le pl1
      have h2 : (PySem.Str.ofString "\n").length = 1 := by decide +kernel
      rw [h2]
      omega
    refine ⟨_, _, rfl, ?_⟩
    have s12 := same_tr s1 s2
    have hx2 := s2 _ _ hx
    have hk2 := hk1.same s2
    have hO2 := hO1.same s2
    refine ⟨_, rfl, x, dx, _, rfl, hx2, x, dx, kk, oo, ps, as, ks, os, rfl, hx2, hk2, kok, hO2, ook, fun H3 s3 => ⟨_, rfl, ?_⟩⟩
    refine ⟨_, rfl, x, dx, _, rfl, s3 _ _ hx2, x, dx, kk, oo, ps, as, ks, os, rfl, s3 _ _ hx2, hk2.same s3, kok, hO2.same s3, ook, fun H4 s4 => ⟨_, rfl, ?_⟩⟩
    refine ⟨l2, fun q1 hq1 => ⟨_, rfl, _, rfl, l2, fun q2 hq2 => ?_⟩⟩
    have s24 := same_tr (same_tr s3 s4) (same_new (o := .lst [.str (page ks os), .str (page ks os)]) (same_new (o := .lst [.str (page ks os), .str (page ks os)]) same_rfl hq1) hq2)
    have pg := page_ok kok ook
    have lay : PyData.canLay0 (.list [.str (page ks os), .str (page ks os)]) = true := by simp only [PyData.canLay0, PyData.canLayAll0, pg]; rfl
    have sh : SeqAt.shaped (.list [.str (page ks os), .str (page ks os)]) = true := by
      show (PyData.canLay0 _ && decide (PyData.depth _ ≤ 64)) = true
      rw [lay]
      rfl
    have ev := eqv_me _ lay
    refine ⟨_, _, .lst (SqL.of ((upd_ne (ne_of_none upd_same hq2)).trans upd_same)) (.cons (.str _) (.cons (.str _) .nil)), .lst (SqL.of upd_same) (.cons (.str _) (.cons (.str _) .nil)), sh, sh, _, rfl, ?_⟩
    refine ite2 (fun z => ?_) (fun _ => ?_)
    · have z' : (!PyData.eqv (.list [.str (page ks os), .str (page ks os)]) (.list [.str (page ks os), .str (page ks os)])) = true := z
      rw [ev] at z'
      cases z'
    show Ends.nx _ _ (upd (upd H4 q1 (.lst [.str (page ks os), .str (page ks os)])) q2 (.lst [.str (page ks os), .str (page ks os)]))
    generalize upd (upd H4 q1 (.lst [.str (page ks os), .str (page ks os)])) q2 (.lst [.str (page ks os), .str (page ks os)]) = H5 at s24
    have s5 := same_tr s12 s24
    have hx5 := s24 _ _ hx2
    refine ⟨rfl, _, rfl, ks, os, rfl, kok, ook, fun a1 H6 s6 b1 => ?_⟩
    refine ⟨rfl, _, rfl, _, rfl, ks, os, rfl, kok, ook, fun a2 H7 s7 b2 => ⟨l2, fun t ht => ?_⟩⟩
    have s17 : Same H5 (upd H7 t (.tup [.ref a1, .ref a2])) := same_new (same_tr s6 s7) ht
    have st : Same H7 (upd H7 t (.tup [.ref a1, .ref a2])) := same_new same_rfl ht
    have et : upd H7 t (.tup [.ref a1, .ref a2]) t = some (.tup [.ref a1, .ref a2]) := upd_same
    have b1' := b1.same (same_tr s7 st)
    have b2' := b2.same st
    have hx7 := s17 _ _ hx5
    have s07 := same_tr s5 s17
    refine ⟨t, rfl, ⟨_, SqT.of et⟩, ?_⟩
    generalize upd H7 t (.tup [.ref a1, .ref a2]) = H8 at s17 st et b1' b2' hx7 s07
    have shown : ∀ {G : Hp} {k1 o1 : Addr} {p1 q1 : List Addr}, KindsAt K G k1 p1 ks → OpnsAt K G o1 q1 os → DpAll K G [.ref k1, .ref o1] [.tuple (ks.map kD), .tuple (os.map opD)] := fun h1 h2 => .cons (ks_dp h1) (.cons (os_dp h2) .nil)
    have tl2 := two_list kok ook
    refine for_tup (K := K) (a := t) (xs := [.ref a1, .ref a2]) (fun i σ H' => ∃ o4 : Option V, σ = [some (.ref kk), some (.ref oo), some (.ref x), some (.str (page ks os)), o4] ∧ Same H8 H') ⟨none, rfl, same_rfl⟩ (fun i σ H' _ ⟨_, _, z⟩ => SqT.of (z _ _ et)) ?_ ?_
    · rintro i y σ H9 hi ⟨o4, rfl, s9⟩
      have : ∃ a, y = .ref a ∧ BkAt K C H9 a ks os := by
        match i, hi with
        | 0, hi => cases hi; exact ⟨_, rfl, b1'.same s9⟩
        | 1, hi => cases hi; exact ⟨_, rfl, b2'.same s9⟩
      obtain ⟨a, rfl, ba⟩ := this
      obtain ⟨dz, kz, oz, pz, az, hz1, hz2, hz3⟩ := ba.ex
      have hx9 := s9 _ _ hx7
      have bx9 : BkAt K C H9 x ks os := ⟨⟨dx, kk, oo, ps, as, hx9, hk.same (same_tr s07 s9), hO.same (same_tr s07 s9)⟩, kok, ook⟩
      refine ⟨_, rfl, _, _, _, _, true, rfl, .own C, .base (.ins hz1 T.q.cl T.q.ha T.q.hn T.q.ht T.q.hm), kit_me, _, rfl, ite2 (fun z => absurd z (by decide)) (fun _ => ?_)⟩
      refine ⟨_, rfl, _, rfl, ⟨a, x, dz, dx, _, _, rfl, rfl, hz1, hx9, ks, os, ba, bx9⟩, fun H10 e10 => ⟨_, rfl, ?_⟩⟩
      have e10' : Same H9 H10 := e10
      refine ite2 (fun z => absurd z (by decide)) (fun _ => ?_)
      refine ⟨_, rfl, a, C, dz, _, _, rfl, e10' _ _ hz1, T.q.cl, T.q.nK, rfl, _, rfl, a, C, dz, _, _, rfl, e10' _ _ hz1, T.q.cl, T.q.nO, rfl, l2, fun r hr1 => ?_⟩
      have sr := same_new (o := .lst [.ref kz, .ref oz]) e10' hr1
      refine ⟨r, _, _, rfl, shown (hz2.same sr) (hz3.same sr), .inl ⟨SqL.of upd_same, tl2, ?_⟩⟩
      refine ⟨_, rfl, _, rfl, l2, fun r' hr2 => ?_⟩
      have sr2 := same_new (o := .lst [.ref kk, .ref oo]) sr hr2
      refine ⟨r', _, _, rfl, shown (hk.same (same_tr (same_tr s07 s9) sr2)) (hO.same (same_tr (same_tr s07 s9) sr2)), .inl ⟨SqL.of upd_same, tl2, ?_⟩⟩
      refine ⟨rfl, _, rfl, ite2 (fun z => ?_) (fun _ => ?_)⟩
      · simp at z
      have sr2' : Same H9 (upd (upd H10 r (.lst [.ref kz, .ref oz])) r' (.lst [.ref kk, .ref oo])) := sr2
      show Ends.nx _ _ (upd (upd H10 r (.lst [.ref kz, .ref oz])) r' (.lst [.ref kk, .ref oo]))
      generalize upd (upd H10 r (.lst [.ref kz, .ref oz])) r' (.lst [.ref kk, .ref oo]) = H11 at sr2'
      have hz1' := sr2' _ _ hz1
      refine ⟨_, rfl, a, dz, _, rfl, hz1', a, dz, kz, oz, pz, az, ks, os, rfl, hz1', hz2.same sr2', kok, hz3.same sr2', ook, fun H12 s12' => ⟨_, rfl, ?_⟩⟩
      refine ⟨_, rfl, rfl, _, rfl, ite2 (fun z => ?_) (fun _ => ?_)⟩
      · simp at z
      exact ⟨_, rfl, same_tr s9 (same_tr sr2' s12')⟩
    · rintro σ H9 ⟨o4, rfl, s9⟩
      have hx9 := s9 _ _ hx7
      have s09 := same_tr s07 s9
      refine ⟨_, rfl, x, C, dx, _, _, rfl, hx9, T.q.cl, T.q.nK, rfl, _, rfl, x, C, dx, _, _, rfl, hx9, T.q.cl, T.q.nO, rfl, l2, fun r hr1 => ?_⟩
      have sr := same_new (o := .lst [.ref kk, .ref oo]) s09 hr1
      refine ⟨r, _, _, rfl, shown (hk.same sr) (hO.same sr), .inl ⟨SqL.of upd_same, tl2, ?_⟩⟩
      refine ⟨_, rfl, _, rfl, l2, fun r' hr2 => ?_⟩
      have sr2 := same_new (o := .lst [.ref kk, .ref oo]) sr hr2
      refine ⟨r', _, _, rfl, shown (hk.same sr2) (hO.same sr2), .inl ⟨SqL.of upd_same, tl2, rfl, ?_⟩⟩
      have : decide (V.str (PyData.shown (.list [.tuple (ks.map kD), .tuple (os.map opD)])) = V.str (PyData.shown (.list [.tuple (ks.map kD), .tuple (os.map opD)]))) = true := decide_eq_true rfl
      rw [this]
      exact k _ sr2
end
end K06

set_option Elab.async false
set_option linter.all false
set_option maxRecDepth 100000
set_option maxHeartbeats 4000000
/-! Unlike data have unlike texts (repr). -/
namespace Mine
open PySem PySem.Spec PyProof.Rows L2 TL
/-- data whose text tells it: numbers from 0 on, strings of ASCII's printable signs but ' and the backslash, no dicts -/
def signOk (c : Nat) : Bool := decide (32 ≤ c ∧ c < 127 ∧ c ≠ 39 ∧ c ≠ 92)
mutual
def plainD : PyData → Bool
  | .none | .bool _ => true
  | .int i => decide (0 ≤ i)
  | .str x => x.cps.toList.all signOk
  | .list ds | .tuple ds => plainDs ds
  | .dict _ => false
def plainDs : List PyData → Bool
  | [] => true
  | d :: ds => plainD d && plainDs ds
end
theorem sign_char : ∀ c < 127, signOk c = true → Builtin.Str.reprChar 39 c = [c] := by decide +kernel
theorem repr_fold {x : Str} (q : Nat) : ∀ (l : List Nat) (acc : Array Nat), (∀ c ∈ l, Builtin.Str.reprChar q c = [c]) → (l.foldl (fun out c => out ++ (Builtin.Str.reprChar q c).toArray) acc).toList = acc.toList ++ l
  | [], acc, _ => by simp
  | c :: l, acc, h => by
    rw [List.foldl_cons, h c (List.mem_cons_self ..), repr_fold (x := x) q l _ fun d hd => h d (List.mem_cons_of_mem _ hd)]
    simp
theorem tl_repr {x : Str} (h : x.cps.toList.all signOk = true) : tl (reprText x) = 39 :: (tl x ++ [39]) := by
  have hs : ∀ c ∈ tl x, signOk c = true := List.all_eq_true.mp h
  have no : x.cps.contains 39 = false := by
    cases e : x.cps.contains 39 with
    | false => rfl
    | true =>
      have m : (39 : Nat) ∈ tl x := by simpa using e
      exact absurd (hs 39 m) (by decide)
  have q : reprQuote x = 39 := by
    unfold reprQuote
    rw [no]
    rfl
  have ch : ∀ c ∈ tl x, Builtin.Str.reprChar 39 c = [c] := fun c hc => by
    have := hs c hc
    have l : c < 127 := by
      unfold signOk at this
      simp only [decide_eq_true_eq] at this
      exact this.2.1
    exact sign_char c l this
  unfold reprText
  rw [q]
  show (Array.push _ 39).toList = _
  rw [Array.toList_push, ← Array.foldl_toList, repr_fold (x := x) 39 _ _ ch]
  simp
def comma : List Nat := [44, 32]
theorem tl_comma : tl (Str.ofString ", ") = comma := by decide +kernel
/-- the signs of the text -/
abbrev sg (d : PyData) : List Nat := tl d.shown
theorem all_sg : ∀ ds : List PyData, (PyData.shownAll ds).map tl = ds.map sg
  | [] => by simp [PyData.shownAll]
  | d :: ds => by rw [PyData.shownAll_cons, List.map_cons, List.map_cons, all_sg ds]
theorem sg_list (ds : List PyData) : sg (.list ds) = 91 :: (joinL comma (ds.map sg) ++ [93]) := by
  show tl (PyData.shown _) = _
  have e : PyData.shown (.list ds) = listText (PyData.shownAll ds) := by simp only [PyData.shown]
  have e1 : tl (Str.ofString "[") = [91] := by decide +kernel
  have e2 : tl (Str.ofString "]") = [93] := by decide +kernel
  rw [e, listText_eq_join]
  show tl (Str.ofString "[" ++ Str.join (Str.ofString ", ") (PyData.shownAll ds) ++ Str.ofString "]") = _
  rw [tl_append, tl_append, tl_join, e1, e2, tl_comma, all_sg]
  rfl
def clo (n : Nat) : List Nat := if n = 1 then [44, 41] else [41]
theorem sg_tuple (ds : List PyData) : sg (.tuple ds) = 40 :: (joinL comma (ds.map sg) ++ clo ds.length) := by
  show tl (PyData.shown _) = _
  have e : PyData.shown (.tuple ds) = tupleText (PyData.shownAll ds) := by simp only [PyData.shown]
  have e1 : tl (Str.ofString "(") = [40] := by decide +kernel
  have e2 : ∀ n : Nat, tl (Str.ofString (if (n == 1) = true then ",)" else ")")) = clo n := fun n => by
    unfold clo
    by_cases h : n = 1
    · rw [if_pos (by simpa using h), if_pos h]
      decide +kernel
    · rw [if_neg (by simpa using h), if_neg h]
      decide +kernel
  rw [e]
  show tl (Str.ofString "(" ++ Str.join (Str.ofString ", ") (PyData.shownAll ds) ++ Str.ofString (if ((PyData.shownAll ds).length == 1) = true then ",)" else ")")) = _
  rw [tl_append, tl_append, tl_join, e1, e2, tl_comma, all_sg, PyData.shownAll_length]
  rfl
/-- the kind of data by its first sign -/
def tag (c : Nat) : Nat := if c = 78 then 0 else if c = 84 then 1 else if c = 70 then 2 else if 48 ≤ c ∧ c ≤ 57 then 3 else if c = 39 then 4 else if c = 91 then 5 else if c = 40 then 6 else 9
def kindOf : PyData → Nat
  | .none => 0 | .bool true => 1 | .bool false => 2 | .int _ => 3 | .str _ => 4 | .list _ => 5 | .tuple _ => 6 | .dict _ => 7
theorem sg_int {i : Int} (h : 0 ≤ i) : sg (.int i) = numL i.toNat := by
  have e : i = ((i.toNat : Nat) : Int) := by omega
  show tl (PyData.shown (.int i)) = _
  rw [PyData.shown_int]
  conv => lhs; rw [e]
  exact tl_num _
theorem first {d : PyData} (h : plainD d = true) : ∃ c t, sg d = c :: t ∧ tag c = kindOf d := by
  cases d with
  | none => exact ⟨78, [111, 110, 101], by show tl (PyData.shown _) = _; rw [PyData.shown_none]; decide +kernel, by decide⟩
  | bool b =>
    cases b with
    | true => exact ⟨84, [114, 117, 101], by show tl (PyData.shown _) = _; rw [PyData.shown_bool]; decide +kernel, by decide⟩
    | false => exact ⟨70, [97, 108, 115, 101], by show tl (PyData.shown _) = _; rw [PyData.shown_bool]; decide +kernel, by decide⟩
  | int i =>
    have h0 : 0 ≤ i := by simpa [plainD] using h
    rw [sg_int h0]
    cases e : numL i.toNat with
    | nil => exact absurd e (numL_ne _)
    | cons c t =>
      refine ⟨c, t, rfl, ?_⟩
      have := numL_digits i.toNat c (by rw [e]; exact List.mem_cons_self ..)
      unfold tag
      rw [if_neg (by omega), if_neg (by omega), if_neg (by omega), if_pos (by omega)]
      rfl
  | str x =>
    refine ⟨39, tl x ++ [39], ?_, rfl⟩
    show tl (PyData.shown _) = _
    rw [PyData.shown_str]
    exact tl_repr (by simpa only [plainD] using h)
  | list ds => exact ⟨91, _, sg_list ds, rfl⟩
  | tuple ds => exact ⟨40, _, sg_tuple ds, rfl⟩
  | dict _ => simp [plainD] at h
theorem same_kind {d d' : PyData} (h : plainD d = true) (h' : plainD d' = true) {r r' : List Nat} (e : sg d ++ r = sg d' ++ r') : kindOf d = kindOf d' := by
  obtain ⟨c, t, a, b⟩ := first h
  obtain ⟨c', t', a', b'⟩ := first h'
  rw [a, a'] at e
  injection e with e1 _
  rw [← b, ← b', e1]
/-- what stands behind data -/
def After (r : List Nat) : Prop := ∀ c t, r = c :: t → ¬ (48 ≤ c ∧ c ≤ 57)
def Fin1 (f : List Nat) : Prop := (∃ t, f = 41 :: t) ∨ (∃ t, f = 93 :: t) ∨ ∃ t, f = 44 :: 41 :: t
theorem Fin1.after {f : List Nat} (h : Fin1 f) : After f := by
  rcases h with ⟨t, rfl⟩ | ⟨t, rfl⟩ | ⟨t, rfl⟩ <;> (intro c u e; injection e with e1 _; omega)
theorem comma_after (t : List Nat) : After (comma ++ t) := by
  intro c u e
  injection e with e1 _
  omega
theorem digits_cut {a b : List Nat} : ∀ {r r' : List Nat}, (∀ c ∈ a, 48 ≤ c ∧ c ≤ 57) → (∀ c ∈ b, 48 ≤ c ∧ c ≤ 57) → After r → After r' → a ++ r = b ++ r' → a = b ∧ r = r' := by
  induction a generalizing b with
  | nil =>
    intro r r' ha hb hr hr' e
    cases b with
    | nil => exact ⟨rfl, e⟩
    | cons x b => exact absurd (hb x (List.mem_cons_self ..)) (hr x _ e)
  | cons y a ih =>
    intro r r' ha hb hr hr' e
    cases b with
    | nil => exact absurd (ha y (List.mem_cons_self ..)) (hr' y _ e.symm)
    | cons x b =>
      injection e with e1 e2
      obtain ⟨h1, h2⟩ := ih (fun c hc => ha c (List.mem_cons_of_mem _ hc)) (fun c hc => hb c (List.mem_cons_of_mem _ hc)) hr hr' e2
      exact ⟨by rw [e1, h1], h2⟩
theorem quote_cut {a b r r' : List Nat} (ha : 39 ∉ a) (hb : 39 ∉ b) (e : a ++ 39 :: r = b ++ 39 :: r') : a = b ∧ r = r' := by
  induction a generalizing b with
  | nil =>
    cases b with
    | nil => exact ⟨rfl, (List.cons.inj e).2⟩
    | cons x b => exact absurd (by rw [← (List.cons.inj e).1]; exact List.mem_cons_self ..) hb
  | cons y a ih =>
    cases b with
    | nil => exact absurd (by rw [(List.cons.inj e).1]; exact List.mem_cons_self ..) ha
    | cons x b =>
      injection e with e1 e2
      obtain ⟨h1, h2⟩ := ih (fun z => ha (List.mem_cons_of_mem _ z)) (fun z => hb (List.mem_cons_of_mem _ z)) e2
      exact ⟨by rw [e1, h1], h2⟩
theorem no39 {x : Str} (h : x.cps.toList.all signOk = true) : 39 ∉ tl x := fun m => absurd (List.all_eq_true.mp h 39 m) (by decide)
theorem clo_fin (n : Nat) (r : List Nat) : Fin1 (clo n ++ r) := by
  unfold clo
  by_cases h : n = 1
  · rw [if_pos h]; exact .inr (.inr ⟨r, rfl⟩)
  · rw [if_neg h]; exact .inl ⟨r, rfl⟩
theorem kind_le : ∀ d : PyData, kindOf d ≤ 7
  | .none => by decide
  | .bool true => by decide
  | .bool false => by decide
  | .int _ => by show 3 ≤ 7; decide
  | .str _ => by show 4 ≤ 7; decide
  | .list _ => by show 5 ≤ 7; decide
  | .tuple _ => by show 6 ≤ 7; decide
  | .dict _ => by show 7 ≤ 7; decide
theorem fin_no {f : List Nat} (h : Fin1 f) {d : PyData} (hd : plainD d = true) {t : List Nat} (e : f = sg d ++ t) : False := by
  obtain ⟨c, u, a, b⟩ := first hd
  rw [a] at e
  have k := kind_le d
  have t1 : tag 41 = 9 := by decide
  have t2 : tag 93 = 9 := by decide
  have t3 : tag 44 = 9 := by decide
  rcases h with ⟨t', rfl⟩ | ⟨t', rfl⟩ | ⟨t', rfl⟩
  all_goals
    injection e with e1 _
    rw [← e1] at b
    omega
mutual
theorem sg_cut : ∀ (d d' : PyData) (r r' : List Nat), plainD d = true → plainD d' = true → After r → After r' → sg d ++ r = sg d' ++ r' → d = d' ∧ r = r'
  | .none, d', r, r', h, h', _, _, e => by
    have k := same_kind h h' e
    cases d' with
    | none => exact ⟨rfl, List.append_cancel_left e⟩
    | bool b => cases b <;> cases k
    | _ => cases k
  | .bool true, d', r, r', h, h', _, _, e => by
    have k := same_kind h h' e
    cases d' with
    | bool b =>
      cases b with
      | true => exact ⟨rfl, List.append_cancel_left e⟩
      | false => cases k
    | _ => cases k
  | .bool false, d', r, r', h, h', _, _, e => by
    have k := same_kind h h' e
    cases d' with
    | bool b =>
      cases b with
      | true => cases k
      | false => exact ⟨rfl, List.append_cancel_left e⟩
    | _ => cases k
  | .int i, d', r, r', h, h', hr, hr', e => by
    have k := same_kind h h' e
    cases d' with
    | int j =>
      have h0 : 0 ≤ i := by simpa [plainD] using h
      have h1 : 0 ≤ j := by simpa [plainD] using h'
      rw [sg_int h0, sg_int h1] at e
      obtain ⟨a, b⟩ := digits_cut (numL_digits _) (numL_digits _) hr hr' e
      have := numL_inj a
      exact ⟨by congr 1; omega, b⟩
    | bool b => cases b <;> cases k
    | _ => cases k
  | .str x, d', r, r', h, h', _, _, e => by
    have k := same_kind h h' e
    cases d' with
    | str y =>
      have h0 : x.cps.toList.all signOk = true := by simpa only [plainD] using h
      have h1 : y.cps.toList.all signOk = true := by simpa only [plainD] using h'
      have e' : tl (reprText x) ++ r = tl (reprText y) ++ r' := by rw [← PyData.shown_str, ← PyData.shown_str]; exact e
      rw [tl_repr h0, tl_repr h1] at e'
      injection e' with _ e2
      rw [List.append_eq, List.append_eq, List.append_assoc, List.append_assoc] at e2
      obtain ⟨a, b⟩ := quote_cut (no39 h0) (no39 h1) e2
      exact ⟨by rw [ext_tl a], b⟩
    | bool b => cases b <;> cases k
    | _ => cases k
  | .list ds, d', r, r', h, h', hr, hr', e => by
    have k := same_kind h h' e
    cases d' with
    | list ds' =>
      have h0 : plainDs ds = true := by simpa only [plainD] using h
      have h1 : plainDs ds' = true := by simpa only [plainD] using h'
      rw [sg_list, sg_list] at e
      injection e with _ e2
      rw [List.append_eq, List.append_eq, List.append_assoc, List.append_assoc] at e2
      obtain ⟨a, b⟩ := sgs_cut ds ds' _ _ h0 h1 (.inr (.inl ⟨r, rfl⟩)) (.inr (.inl ⟨r', rfl⟩)) e2
      exact ⟨by rw [a], (List.cons.inj b).2⟩
    | bool b => cases b <;> cases k
    | _ => cases k
  | .tuple ds, d', r, r', h, h', hr, hr', e => by
    have k := same_kind h h' e
    cases d' with
    | tuple ds' =>
      have h0 : plainDs ds = true := by simpa only [plainD] using h
      have h1 : plainDs ds' = true := by simpa only [plainD] using h'
      rw [sg_tuple, sg_tuple] at e
      injection e with _ e2
      rw [List.append_eq, List.append_eq, List.append_assoc, List.append_assoc] at e2
      obtain ⟨a, b⟩ := sgs_cut ds ds' _ _ h0 h1 (clo_fin _ r) (clo_fin _ r') e2
      subst a
      exact ⟨rfl, List.append_cancel_left b⟩
    | bool b => cases b <;> cases k
    | _ => cases k
  | .dict _, _, _, _, h, _, _, _, _ => by simp [plainD] at h
theorem sgs_cut : ∀ (ds ds' : List PyData) (f f' : List Nat), plainDs ds = true → plainDs ds' = true → Fin1 f → Fin1 f' → joinL comma (ds.map sg) ++ f = joinL comma (ds'.map sg) ++ f' → ds = ds' ∧ f = f'
  | [], [], _, _, _, _, _, _, e => ⟨rfl, e⟩
  | [], [d'], f, f', _, h', hf, _, e => by
    have h1 : plainD d' = true := by simpa [plainDs] using h'
    exact (fin_no hf h1 (t := f') e).elim
  | [], d' :: e' :: ds', f, f', _, h', hf, _, e => by
    have h1 : plainD d' = true ∧ plainD e' = true ∧ plainDs ds' = true := by simpa [plainDs] using h'
    exact (fin_no hf h1.1 (t := comma ++ joinL comma ((e' :: ds').map sg) ++ f') (by
      have : f = sg d' ++ (comma ++ joinL comma ((e' :: ds').map sg)) ++ f' := e
      rw [this, List.append_assoc])).elim
  | [d], [], f, f', h, _, _, hf', e => by
    have h1 : plainD d = true := by simpa [plainDs] using h
    exact (fin_no hf' h1 (t := f) e.symm).elim
  | d :: e' :: ds, [], f, f', h, _, _, hf', e => by
    have h1 : plainD d = true ∧ plainD e' = true ∧ plainDs ds = true := by simpa [plainDs] using h
    exact (fin_no hf' h1.1 (t := comma ++ joinL comma ((e' :: ds).map sg) ++ f) (by
      have : sg d ++ (comma ++ joinL comma ((e' :: ds).map sg)) ++ f = f' := e
      rw [← this, List.append_assoc])).elim
  | [d], [d'], f, f', h, h', hf, hf', e => by
    have h0 : plainD d = true := by simpa [plainDs] using h
    have h1 : plainD d' = true := by simpa [plainDs] using h'
    obtain ⟨a, b⟩ := sg_cut d d' f f' h0 h1 hf.after hf'.after e
    exact ⟨by rw [a], b⟩
  | [d], d' :: e' :: ds', f, f', h, h', hf, hf', e => by
    have h0 : plainD d = true := by simpa [plainDs] using h
    have h1 : plainD d' = true ∧ plainD e' = true ∧ plainDs ds' = true := by simpa [plainDs] using h'
    have e1 : sg d ++ f = sg d' ++ (comma ++ (joinL comma ((e' :: ds').map sg) ++ f')) := by
      have : sg d ++ f = sg d' ++ (comma ++ joinL comma ((e' :: ds').map sg)) ++ f' := e
      rw [this, List.append_assoc, List.append_assoc]
    obtain ⟨_, b⟩ := sg_cut d d' f _ h0 h1.1 hf.after (comma_after _) e1
    rcases hf with ⟨t, rfl⟩ | ⟨t, rfl⟩ | ⟨t, rfl⟩
    · injection b with b1 _; cases b1
    · injection b with b1 _; cases b1
    · injection b with _ b2; injection b2 with b3 _; cases b3
  | d :: e' :: ds, [d'], f, f', h, h', hf, hf', e => by
    have h0 : plainD d = true ∧ plainD e' = true ∧ plainDs ds = true := by simpa [plainDs] using h
    have h1 : plainD d' = true := by simpa [plainDs] using h'
    have e1 : sg d ++ (comma ++ (joinL comma ((e' :: ds).map sg) ++ f)) = sg d' ++ f' := by
      have : sg d ++ (comma ++ joinL comma ((e' :: ds).map sg)) ++ f = sg d' ++ f' := e
      rw [← this, List.append_assoc, List.append_assoc]
    obtain ⟨_, b⟩ := sg_cut d d' _ f' h0.1 h1 (comma_after _) hf'.after e1
    rcases hf' with ⟨t, rfl⟩ | ⟨t, rfl⟩ | ⟨t, rfl⟩
    · injection b with b1 _; cases b1
    · injection b with b1 _; cases b1
    · injection b with _ b2; injection b2 with b3 _; cases b3
  | d :: e1 :: ds, d' :: e2 :: ds', f, f', h, h', hf, hf', e => by
    have h0 : plainD d = true ∧ plainDs (e1 :: ds) = true := by simpa [plainDs] using h
    have h1 : plainD d' = true ∧ plainDs (e2 :: ds') = true := by simpa [plainDs] using h'
    have e3 : sg d ++ (comma ++ (joinL comma ((e1 :: ds).map sg) ++ f)) = sg d' ++ (comma ++ (joinL comma ((e2 :: ds').map sg) ++ f')) := by
      have : sg d ++ (comma ++ joinL comma ((e1 :: ds).map sg)) ++ f = sg d' ++ (comma ++ joinL comma ((e2 :: ds').map sg)) ++ f' := e
      rw [List.append_assoc, List.append_assoc, List.append_assoc, List.append_assoc] at this
      exact this
    obtain ⟨a, b⟩ := sg_cut d d' _ _ h0.1 h1.1 (comma_after _) (comma_after _) e3
    obtain ⟨a2, b2⟩ := sgs_cut (e1 :: ds) (e2 :: ds') f f' h0.2 h1.2 hf hf' (List.append_cancel_left b)
    exact ⟨by rw [a, a2], b2⟩
end
theorem shown_inj {d d' : PyData} (h : plainD d = true) (h' : plainD d' = true) (e : d.shown = d'.shown) : d = d' :=
  (sg_cut d d' [] [] h h' (fun _ _ z => nomatch z) (fun _ _ z => nomatch z) (by rw [List.append_nil, List.append_nil]; exact congrArg tl e)).1
end Mine

set_option Elab.async false
set_option linter.all false
set_option maxRecDepth 100000
set_option maxHeartbeats 4000000
/-! A written tuple as a plain one. -/
namespace Mine
open PySem PySem.Spec PyProof.Rows L2
section
variable {X : Cx} {es : List Expr} {t : L2.TA} {pos : Pos}
def tTupF (t : L2.TA) : L2.TE := fun σ H Q => t σ H fun xs H1 => xs.length ≤ sizeLine ∧ ∀ p o, H1 p = none → o.dict = none → Q (.ref p) (upd H1 p (.frz o (.tup xs)))
theorem pe_tupF {x1} (h : L2.PA X es t) : L2.PE X (.Tuple es x1 pos) (tTupF t) := by
  refine ⟨fun pins s σ H Q I hq => ?_⟩
  refine wpAny_Tuple_spliced (thn (h.run pos pins s σ H _ I hq) fun us s1 ⟨xs, H1, I1, r, z, q⟩ => ⟨by rw [← r.length]; exact z, ?_⟩)
  have hf : H1 s1.heap.objs.size = none := I1.hok.fresh (Nat.le_refl _)
  refine ⟨.ref s1.heap.objs.size, upd H1 s1.heap.objs.size (.frz { cls := .type "tuple", data := .seq us.toArray } (.tup xs)), I1.laid (t' := s1.toks) (fun b u e => Heap.get?_push_of_some _ e) (Nat.le_refl _) ?_, rfl, q _ _ hf rfl⟩
  exact ⟨Heap.get?_push_size _ rfl, z, us, r, ⟨_, Heap.get?_push_size _ rfl, rfl, _, rfl⟩⟩
end
end Mine

set_option Elab.async false
set_option linter.all false
set_option maxRecDepth 100000
set_option maxHeartbeats 4000000
/-! The law. -/
namespace K06
open PySem PySem.Spec PyProof.Rows L2 Mine TL SkE StX ClX
abbrev sLaw : Stmt := top 37
theorem ww_pl : ∀ x ∈ WW, x.cps.toList.all signOk = true := by decide +kernel
theorem pl_all {ds : List PyData} (h : ∀ d ∈ ds, plainD d = true) : plainDs ds = true := by
  induction ds with
  | nil => simp [plainDs]
  | cons d ds ih =>
    simp only [plainDs, h d (List.mem_cons_self ..), ih fun x hx => h x (List.mem_cons_of_mem _ hx)]
    rfl
theorem nd_pl {m : Int} {ks : List (Str × Int)} {n : Nd} (h : NdOk m ks n) (kw : ∀ p ∈ ks, p.1 ∈ WW) : plainD (ndD n) = true := by
  cases n with
  | part j =>
    have l : (PySem.Str.ofString "part").cps.toList.all signOk = true := by decide +kernel
    simp only [ndD, plainD, plainDs, l, decide_eq_true h.1]
    rfl
  | around c j =>
    have l : (PySem.Str.ofString "around").cps.toList.all signOk = true := by decide +kernel
    simp only [ndD, plainD, plainDs, l, ww_pl _ (kw _ h.1), decide_eq_true h.2.1]
    rfl
  | inside j c =>
    have l : (PySem.Str.ofString "inside").cps.toList.all signOk = true := by decide +kernel
    simp only [ndD, plainD, plainDs, l, ww_pl _ (kw _ h.1), decide_eq_true h.2.1]
    rfl
theorem two_pl {ks : List (Str × Int)} {os : List Opn} (kok : KsOk ks) (ook : OsOk ks os) : plainD (.tuple [.tuple (ks.map kD), .tuple (os.map opD)]) = true := by
  have a : plainDs (ks.map kD) = true := pl_all fun d hd => by
    obtain ⟨p, hp, rfl⟩ := List.mem_map.mp hd
    have n := kok.num p hp
    have z : (0 : Int) ≤ p.2 := by omega
    simp only [kD, plainD, plainDs, ww_pl _ (kok.ww p hp), decide_eq_true z]
    rfl
  have b : plainDs (os.map opD) = true := pl_all fun d hd => by
    obtain ⟨o, ho, rfl⟩ := List.mem_map.mp hd
    obtain ⟨m, hm, g0, g1, nl, hn⟩ := (ook.each o ho).ex
    have c : plainDs (o.nn.map ndD) = true := pl_all fun d hd => by
      obtain ⟨n, hn1, rfl⟩ := List.mem_map.mp hd
      exact nd_pl (hn n hn1) kok.ww
    simp only [opD, plainD, plainDs, ww_pl _ (ook.each o ho).ww, ww_pl _ (kok.ww _ hm), decide_eq_true g0, c]
    rfl
  simp only [plainD, plainDs, a, b]
  rfl
theorem map_inj' {α β : Type} {f : α → β} (h : ∀ a b, f a = f b → a = b) : ∀ {xs ys : List α}, xs.map f = ys.map f → xs = ys
  | [], [], _ => rfl
  | [], _ :: _, e => by cases e
  | _ :: _, [], e => by cases e
  | a :: xs, b :: ys, e => by
    rw [List.map_cons, List.map_cons] at e
    injection e with e1 e2
    rw [h a b e1, map_inj' h e2]
theorem kD_inj (a b : Str × Int) (e : kD a = kD b) : a = b := by
  obtain ⟨a1, a2⟩ := a
  obtain ⟨b1, b2⟩ := b
  have e' : PyData.tuple [.str a1, .int a2] = PyData.tuple [.str b1, .int b2] := e
  injection e' with e1
  injection e1 with e2 e3
  injection e2 with e2
  injection e3 with e3 _
  injection e3 with e3
  rw [e2, e3]
theorem ndD_inj (a b : Nd) (e : ndD a = ndD b) : a = b := by
  cases a <;> cases b <;> simp only [ndD, PyData.tuple.injEq, List.cons.injEq, PyData.str.injEq, PyData.int.injEq, and_true, true_and, reduceCtorEq, and_false, false_and] at e <;> first | (obtain ⟨rfl, rfl⟩ := e; rfl) | (obtain ⟨_, rfl, rfl⟩ := e; rfl) | (subst e; rfl) | (obtain ⟨_, rfl⟩ := e; rfl)
theorem opD_inj (a b : Opn) (e : opD a = opD b) : a = b := by
  obtain ⟨a1, a2, a3, a4⟩ := a
  obtain ⟨b1, b2, b3, b4⟩ := b
  simp only [opD, PyData.tuple.injEq, List.cons.injEq, PyData.str.injEq, PyData.int.injEq, and_true] at e
  obtain ⟨rfl, rfl, rfl, e4⟩ := e
  rw [map_inj' ndD_inj e4]
theorem told_iff {ks ks' : List (Str × Int)} {os os' : List Opn} (h1 : KsOk ks) (h2 : KsOk ks') (a : OsOk ks os) (b : OsOk ks' os') :
    PyData.shown (.tuple [.tuple (ks'.map kD), .tuple (os'.map opD)]) = PyData.shown (.tuple [.tuple (ks.map kD), .tuple (os.map opD)]) ↔ page ks os = page ks' os' := by
  constructor
  · intro e
    have e1 := shown_inj (two_pl h2 b) (two_pl h1 a) e
    simp only [PyData.tuple.injEq, List.cons.injEq, and_true] at e1
    rw [map_inj' kD_inj e1.1, map_inj' opD_inj e1.2]
  · intro e
    obtain ⟨rfl, rfl⟩ := page_inj h1 h2 a b e
    rfl
/-! what all but the deck's doing leaves -/
theorem sqT_keep {K : PySem.W.Frag} {H H' : Hp} {dk dl a : Addr} {t : Int} {xs : List V} (D : DeckAt H dk dl t) (k : Keep dk dl H H') (h : SqT K H a xs) : SqT K H' a xs := by
  obtain ⟨⟨_, h1, _⟩, ⟨_, h2, _⟩⟩ := D
  rcases h with (e | ⟨o, e⟩) | h
  · exact .inl (.inl (k _ _ (ne_of e h1 (by intro z; cases z)) (ne_of e h2 (by intro z; cases z)) e))
  · exact .inl (.inr ⟨o, k _ _ (ne_of e h1 (by intro z; cases z)) (ne_of e h2 (by intro z; cases z)) e⟩)
  · exact .inr h
theorem ks_keep {K : PySem.W.Frag} {H H' : Hp} {dk dl kk : Addr} {t : Int} {ps : List Addr} {ks : List (Str × Int)} (D : DeckAt H dk dl t) (k : Keep dk dl H H') (h : KindsAt K H kk ps ks) : KindsAt K H' kk ps ks := by
  refine ⟨?_, paired_mono (fun _ _ => sqT_keep D k) h.each⟩
  rcases h.at_ with ⟨o, e, d⟩ | ⟨h, r⟩
  · obtain ⟨⟨_, h1, _⟩, ⟨_, h2, _⟩⟩ := D
    exact .inl ⟨o, k _ _ (ne_of e h1 (by intro z; cases z)) (ne_of e h2 (by intro z; cases z)) e, d⟩
  · exact .inr ⟨sqT_keep D k h, r⟩
theorem os_keep {K : PySem.W.Frag} {H H' : Hp} {dk dl oo : Addr} {t : Int} {as : List Addr} {os : List Opn} (D : DeckAt H dk dl t) (k : Keep dk dl H H') (h : OpnsAt K H oo as os) : OpnsAt K H' oo as os :=
  ⟨sqT_keep D k h.at_, paired_mono (fun _ _ ⟨b, bs, h1, h2, h3⟩ => ⟨b, bs, sqT_keep D k h1, sqT_keep D k h2, paired_mono (fun _ _ => sqT_keep D k) h3⟩) h.each⟩
theorem deck_same {H H' : Hp} {dk dl : Addr} {t : Int} (D : DeckAt H dk dl t) (k : Same H H') : DeckAt H' dk dl t := by
  obtain ⟨⟨m, x1, y1, z1⟩, ⟨cs, x2, y2⟩⟩ := D
  exact ⟨⟨m, k _ _ x1, y1, z1⟩, ⟨cs, k _ _ x2, y2⟩⟩
/-- what the law remembers -/
def LastAt (K : PySem.W.Frag) (H : Hp) (l : Addr) : Prop := ∃ (k0 o0 : Addr) (p0 a0 : List Addr) (ks0 : List (Str × Int)) (os0 : List Opn), SqT K H l [.ref k0, .ref o0] ∧ KindsAt K H k0 p0 ks0 ∧ KsOk ks0 ∧ OpnsAt K H o0 a0 os0 ∧ OsOk ks0 os0
theorem none_ok {ks : List (Str × Int)} : OsOk ks [] := ⟨fun _ z => (List.not_mem_nil z).elim, fun i a b h => by simp at h, by decide⟩
def hfKs : List (Str × Int) := [(PySem.Str.ofString "half", 1)]
theorem hf_ok : KsOk hfKs := ⟨by decide +kernel, by decide +kernel, by decide +kernel, asc_of (by decide +kernel), by decide +kernel, by decide +kernel⟩
theorem std_page : pageL stdKs stdOs = [PySem.Str.ofString "kind half 1", PySem.Str.ofString "kind lock 2", PySem.Str.ofString "kind mark 1", PySem.Str.ofString "kind pair 2", PySem.Str.ofString "kind seal 2", PySem.Str.ofString "kind sign 2",
  PySem.Str.ofString "opening first pair 0", PySem.Str.ofString "opening open lock 0 part 1", PySem.Str.ofString "opening second pair 1", PySem.Str.ofString "opening shown sign 0", PySem.Str.ofString "opening signed sign 0 around half 1",
  PySem.Str.ofString "opening unseal seal 0 inside 1 half"] := by decide +kernel
def spLaw (K : PySem.W.Frag) : Sp := fun vs H Q _ => ∃ (a : Addr) (ns : List Int), vs = [.ref a] ∧ SqL K H a (ns.map V.int) ∧ ns.length ≤ 63 ∧ ∀ H', Q (.bl true) H'
structure TxtL (K : PySem.W.Frag) (mg : Str → Option Value) (C fD fT fR fS fSt : Addr) : Prop where
  cl : Cls K C
  nK : NoAttr K C "kinds"
  nO : NoAttr K C "openings"
  range : mg "range" = none
  repr : mg "repr" = none
  str : mg "str" = none
  gB : mg "Book" = some (.ref C)
  gD : mg "_law_deck" = some (.ref fD)
  kD : PySem.W.keepIn K (.ref fD) = true
  gT : mg "_law_kit" = some (.ref fT)
  kT : PySem.W.keepIn K (.ref fT) = true
  gR : mg "_law_right" = some (.ref fR)
  kR : PySem.W.keepIn K (.ref fR) = true
  gS : mg "standard_book" = some (.ref fS)
  kS : PySem.W.keepIn K (.ref fS) = true
  aS : PySem.W.findIn K (.ref C) "__str__" = some (some (.ref fSt))
  iS : PySem.W.isFn K (.ref fSt) = true
abbrev nLaw : List Str := ["_law_script", "_law_deck_here", "_law_last", "_law_turn", "_law_makes", "_law_taking", "_law_same", "_law_plain", "_law_lines"]
theorem scLaw : FnScope nLaw ["_law_script"] (defScope sLaw) := ⟨rfl, rfl, rfl, by decide +kernel, rfl, by decide +kernel, by decide +kernel⟩
abbrev lt (s : String) : V := .str (PySem.Str.ofString s)
abbrev A1 : List V := [lt "kind half 1", lt "kind lock 2", lt "kind mark 1", lt "kind pair 2", lt "kind seal 2", lt "kind sign 2"]
abbrev A2 : List V := [lt "opening first pair 0", lt "opening open lock 0 part 1", lt "opening second pair 1"]
abbrev A3 : List V := [lt "opening shown sign 0", lt "opening signed sign 0 around half 1"]
abbrev A4 : List V := [lt "opening unseal seal 0 inside 1 half"]
section
variable {P : Program} {w : World} {K : PySem.W.Frag} {mg : Str → Option Value} {base : Heap}
theorem ok_law {f C fD fT fR fS fSt fB kk0 oo0 : Addr} {ps0 as0 : List Addr} {fd dD dT dR dS dSt dB : FuncData} (F : Fun K "law" "law" sLaw f fd) (T : TxtL K mg C fD fT fR fS fSt) (S : Std K kk0 oo0 ps0 as0)
    (GD : FnOk P w K mg base CX0 1 fD dD ["_law_script"] (spDeck K)) (bD : Binds K dD ["_law_script"] [])
    (GT : FnOk P w K mg base CX0 4 fT dT ["_law_deck_here"] spKit) (bT : Binds K dT ["_law_deck_here"] [])
    (M : Mk K C fB) (GB : FnOk P w K mg base CX0 6 fB dB ["self", "kinds", "openings"] (spInit K C)) (bB : Binds K dB ["self", "kinds", "openings"] [])
    (GS : FnOk P w K mg base CX0 8 fS dS [] (spStd C kk0 oo0)) (bS : Binds K dS [] [])
    (GSt : FnOk P w K mg base CX0 2 fSt dSt ["self"] (spStr K C)) (bSt : Binds K dSt ["self"] [])
    (GR : FnG P w K mg base 10 fR dR ["_law_makes", "_law_taking"] (spRight K)) (bR : Binds K dR ["_law_makes", "_law_taking"] []) :
    FnG P w K mg base 11 f fd ["_law_script"] (spLaw K) := by
  refine fnG_of F scLaw (fun vs H Q E h => ?_) (fun cdv A outer s H vs Q E hr hgd h => ?_)
  · obtain ⟨a, ns, rfl, _⟩ := h
    rfl
  · obtain ⟨a, ns, rfl, hS, hlen, k⟩ := h
    have hr1 : Room 1 _ := hr.mono (by decide)
    have hr4 : Room 4 _ := hr.mono (by decide)
    have hr7 : Room 7 _ := hr.mono (by decide)
    have hr8 : Room 8 _ := hr.mono (by decide)
    have hun : (A.deeper (envOfC "law" (defScope sLaw) s.heap.objs.size f cdv)).units + 40 < cLine := by
      have := hr.un
      omega
    refine ⟨_, pss_cons (ps_set (i := 1) scLaw.nd rfl (.inl rfl) (pe_call GD hr1 rfl T.gD T.kD bD .nil pass0 (pa_cons (pv 0) pa_nil)))
      (pss_cons (ps_set (i := 2) scLaw.nd rfl (.inl rfl) (pe_tup (pa_cons (pe_tupF (pa_cons (pe_tup (pa_cons pe_str (pa_cons pe_int pa_nil))) pa_nil)) (pa_cons (pe_tup pa_nil) pa_nil))))
      (pss_cons (ps_for PassesOwn.never rfl (pi_range1 rfl T.range (pa_cons pe_int pa_nil)) (pg_name (i := 3) scLaw.nd rfl (.inl rfl))
        (pss_cons (ps_asg (pe_call GT hr4 rfl T.gT T.kT bT .nil pass0 (pa_cons (pv 1) pa_nil)) (pg_tup rfl (pgs_cons (pg_name (i := 4) scLaw.nd rfl (.inl rfl)) (pgs_cons (pg_name (i := 5) scLaw.nd rfl (.inl rfl)) pgs_nil))))
        (pss_cons (ps_if (PW.pt (pw_or (pt_not (pt_val (pe_callG GR hr hgd rfl T.gR T.kR bR (pa_cons (pv 4) (pa_cons (pv 5) pa_nil)))))
            (pw_or1 (pt_not (pt_val (pe_callG GR hr hgd rfl T.gR T.kR bR (pa_cons (pv 4) (pa_cons (pe_tup pa_nil) pa_nil)))))))) (pss_one (ps_ret pe_bl)) pss_nil)
        (pss_cons (ps_set (i := 6) scLaw.nd rfl (.inl rfl) (pe_cmpR op_eq (pe_callB (call_reprP hgd hun) (by rfl) T.repr (by decide +kernel) (pa_cons (pv 2) pa_nil))
            (pe_callB (call_reprP hgd hun) (by rfl) T.repr (by decide +kernel) (pa_cons (pe_tup (pa_cons (pv 4) (pa_cons (pv 5) pa_nil))) pa_nil)) (nomark _)))
        (pss_cons (ps_if (pt_cmpR op_ne (pe_cmpR op_eq (pe_callTy (call_strOwn GSt hr4 T.aS T.iS bSt) (by rfl) T.str (by decide +kernel) (pa_cons (pe_make M GB hr7 rfl T.gB bB .nil pass0 (pa_cons (pv 4) (pa_cons (pv 5) pa_nil))) pa_nil))
              (pe_callTy (call_strOwn GSt hr4 T.aS T.iS bSt) (by rfl) T.str (by decide +kernel) (pa_cons (pe_make M GB hr7 rfl T.gB bB .nil pass0 (pa_cons (pe_ix ix_tup (pv 2) pe_int (fun _ _ => rfl)) (pa_cons (pe_ix ix_tup (pv 2) pe_int (fun _ _ => rfl)) pa_nil))) pa_nil)) (nomark _)) (pv 6) (nomark _))
            (pss_one (ps_ret pe_bl)) pss_nil)
        (pss_one (ps_set (i := 2) scLaw.nd rfl (.inl rfl) (pe_tup (pa_cons (pv 4) (pa_cons (pv 5) pa_nil))))))))))
      (pss_cons (ps_set (i := 7) scLaw.nd rfl (.inl rfl) (pe_call0 GS hr8 rfl T.gS T.kS bS .nil pass0))
      (pss_cons (ps_set (i := 8) scLaw.nd rfl (.inl rfl) (pe_lst (pa_cons pe_str (pa_cons pe_str (pa_cons pe_str (pa_cons pe_str (pa_cons pe_str (pa_cons pe_str pa_nil))))))))
      (pss_cons (ps_set (i := 8) scLaw.nd rfl (.inl rfl) (pe_op op_cat (pv 8) (pe_lst (pa_cons pe_str (pa_cons pe_str (pa_cons pe_str pa_nil))))))
      (pss_cons (ps_set (i := 8) scLaw.nd rfl (.inl rfl) (pe_op op_cat (pv 8) (pe_lst (pa_cons pe_str (pa_cons pe_str pa_nil)))))
      (pss_cons (ps_set (i := 8) scLaw.nd rfl (.inl rfl) (pe_op op_cat (pv 8) (pe_lst (pa_cons pe_str pa_nil))))
      (pss_one (ps_ret (pe_and (pe_cmpR op_eq (pe_callTy (call_strOwn GSt hr4 T.aS T.iS bSt) (by rfl) T.str (by decide +kernel) (pa_cons (pv 7) pa_nil)) (pe_m1 PySem.F.slot_str_join PySem.F.type_str_join mt_join pe_str (pv 8)) (nomark _))
        (pe_one (pe_callG GR hr hgd rfl T.gR T.kR bR (pa_cons (pe_fld (pv 7) rfl) (pa_cons (pe_fld (pv 7) rfl) pa_nil)))))))))))))), ?_⟩
    have l0 : 0 ≤ sizeLine := Nat.zero_le _
    have l1 : 1 ≤ sizeLine := by rw [sizeLine_eq]; decide
    have l2 : 2 ≤ sizeLine := by rw [sizeLine_eq]; decide
    have l6 : 6 ≤ sizeLine := by rw [sizeLine_eq]; decide
    refine ⟨_, rfl, a, ns, rfl, hS, hlen, fun dk dl H1 S1 _ _ D1 => ?_⟩
    refine ⟨l2, fun q1 h1 => ⟨l1, fun q2 ob h2 hob => ⟨l0, fun q3 h3 => ⟨l2, fun q4 h4 => ?_⟩⟩⟩⟩
    have s2 : Same H1 (upd H1 q1 (.tup [.str (PySem.Str.ofString "half"), .int 1])) := same_new same_rfl h1
    have s3 : Same H1 _ := same_new (o := .frz ob (.tup [.ref q1])) s2 h2
    have s4 : Same H1 _ := same_new (o := .tup []) s3 h3
    have s5 : Same H1 _ := same_new (o := .tup [.ref q2, .ref q3]) s4 h4
    have e1 : upd H1 q1 (.tup [.str (PySem.Str.ofString "half"), .int 1]) q1 = some (.tup [.str (PySem.Str.ofString "half"), .int 1]) := upd_same
    have e12 := (upd_ne (o := .frz ob (.tup [.ref q1])) (ne_of_none e1 h2)).trans e1
    have e13 := (upd_ne (o := .tup []) (ne_of_none e12 h3)).trans e12
    have e14 := (upd_ne (o := .tup [.ref q2, .ref q3]) (ne_of_none e13 h4)).trans e13
    have e2 : upd (upd H1 q1 (.tup [.str (PySem.Str.ofString "half"), .int 1])) q2 (.frz ob (.tup [.ref q1])) q2 = some (.frz ob (.tup [.ref q1])) := upd_same
    have e23 := (upd_ne (o := .tup []) (ne_of_none e2 h3)).trans e2
    have e24 := (upd_ne (o := .tup [.ref q2, .ref q3]) (ne_of_none e23 h4)).trans e23
    have e3 : upd (upd (upd H1 q1 (.tup [.str (PySem.Str.ofString "half"), .int 1])) q2 (.frz ob (.tup [.ref q1]))) q3 (.tup []) q3 = some (.tup []) := upd_same
    have e34 := (upd_ne (o := .tup [.ref q2, .ref q3]) (ne_of_none e3 h4)).trans e3
    have L1 : LastAt K (upd (upd (upd (upd H1 q1 (.tup [.str (PySem.Str.ofString "half"), .int 1])) q2 (.frz ob (.tup [.ref q1]))) q3 (.tup [])) q4 (.tup [.ref q2, .ref q3])) q4 :=
      ⟨q2, q3, [q1], [], hfKs, [], SqT.of upd_same, ⟨.inl ⟨ob, e24, hob⟩, .cons (SqT.of e14) .nil⟩, hf_ok, ⟨SqT.of e34, .nil⟩, none_ok⟩
    have D5 := deck_same D1 s5
    show Ends.nx _ _ (upd (upd (upd (upd H1 q1 (.tup [.str (PySem.Str.ofString "half"), .int 1])) q2 (.frz ob (.tup [.ref q1]))) q3 (.tup [])) q4 (.tup [.ref q2, .ref q3]))
    generalize upd (upd (upd (upd H1 q1 (.tup [.str (PySem.Str.ofString "half"), .int 1])) q2 (.frz ob (.tup [.ref q1]))) q3 (.tup [])) q4 (.tup [.ref q2, .ref q3]) = H5 at L1 D5
    refine ⟨_, rfl, by decide, by decide, ?_⟩
    refine for_range (lo := 0) (n := 6) (fun n σ H' => ∃ (l : Addr) (t : Int) (o3 o4 o5 o6 o7 o8 : Option V), σ = [some (.ref a), some (.ref dk), some (.ref l), o3, o4, o5, o6, o7, o8] ∧ LastAt K H' l ∧ DeckAt H' dk dl t ∧ 0 ≤ t ∧ t ≤ (n : Int) * 100)
      ⟨q4, 0, none, none, none, none, none, none, rfl, L1, D5, by omega, by omega⟩ ?_ ?_
    · rintro n σ H2 hn ⟨l, t, o3, o4, o5, o6, o7, o8, rfl, L2, D2, ta, tb⟩
      have hn5 : (n : Int) ≤ 5 := by omega
      refine ⟨_, rfl, dk, dl, t, rfl, D2, ta, by omega, fun r p1 p2 vs ws ks os t1 H3 D3 tc td K3 nr np1 np2 er e1 e2 hv hw ok => ?_⟩
      refine ⟨r, _, rfl, SqT.of er, rfl, _, _, rfl, _, _, rfl, rfl, ?_⟩
      have w6 : ∀ o ∈ os, o.w ∈ W6 := fun o ho => ok.osub.subset (List.mem_map_of_mem ho)
      obtain ⟨os', eo, ew, ook⟩ := ops_of ok.sub ok.ops w6
      have hv3 : DKs H3 vs (ks.map kD) := DKs.keeps nw_some _ _ hv
      have hw3 : DKs H3 ws (os'.map opD) := by
        rw [← eo]
        exact DKs.keeps nw_some _ _ hw
      obtain ⟨ps, rfl, hps⟩ := ks_paired hv3
      obtain ⟨as, rfl, has⟩ := items_at hw3
      have ol : os'.length ≤ 6 := by
        have z := os_len ok
        have z2 : (os'.map (·.w)).length = (os.map (·.w)).length := by rw [ew]
        rw [List.length_map, List.length_map] at z2
        omega
      have kA : KindsAt K H3 p1 ps ks := ⟨e1.n, paired_mono (fun _ _ => SqT.of) hps⟩
      have oA : OpnsAt K H3 p2 as os' := ⟨SqT.of e2, paired_mono (fun _ _ h => h.opn) has⟩
      have oOk : OsOk ks os' := ⟨ook, by rw [ew]; exact asc_of (w6_lt.sublist ok.osub), by omega⟩
      have kOk := ks_ok ok
      obtain ⟨k0, o0, p0, a0, ks0, os0, lA, k0A, k0Ok, o0A, o0Ok⟩ := L2
      have lA3 := sqT_keep D2 K3 lA
      have k0A3 := ks_keep D2 K3 k0A
      have o0A3 := os_keep D2 K3 o0A
      clear lA k0A o0A K3 hv hw hv3 hw3 e1 e2 er
      refine ⟨_, rfl, _, rfl, p1, p2, ps, as, ks, os', rfl, kA, kOk, oA, oOk, fun H4 s4 => ⟨_, rfl, ite2 (fun z => absurd z (by decide)) (fun _ => ?_)⟩⟩
      refine ⟨_, rfl, l0, fun z hz => ?_⟩
      have sz := same_new (o := .tup []) s4 hz
      refine ⟨p1, z, ps, [], ks, [], rfl, kA.same sz, kOk, ⟨SqT.of upd_same, .nil⟩, none_ok, fun H5 s5' => ⟨_, rfl, ite2 (fun z => absurd z (by decide)) (fun _ => ?_)⟩⟩
      have s35 := same_tr sz s5'
      refine ⟨_, rfl, l, _, _, rfl, .cons (ks_dp (k0A3.same s35)) (.cons (os_dp (o0A3.same s35)) .nil), .inr ⟨sqT_same s35 lA3, two_tup k0Ok o0Ok, ?_⟩⟩
      refine ⟨_, rfl, _, rfl, l2, fun y hy => ?_⟩
      have sy := same_new (o := .tup [.ref p1, .ref p2]) s35 hy
      refine ⟨y, _, _, rfl, .cons (ks_dp (kA.same sy)) (.cons (os_dp (oA.same sy)) .nil), .inr ⟨SqT.of upd_same, two_tup kOk oOk, ?_⟩⟩
      refine ⟨rfl, ?_⟩
      show Ends.nx _ _ (upd H5 y (.tup [.ref p1, .ref p2]))
      generalize upd H5 y (.tup [.ref p1, .ref p2]) = H6 at sy
      have kA6 := kA.same sy
      have oA6 := oA.same sy
      refine ⟨_, rfl, _, rfl, fun x dx nx ndx ne => made1 (E := E0) kA6 kOk oA6 oOk nx ndx ne fun H7 s7 hx => ?_⟩
      refine ⟨x, dx, _, rfl, hx, x, dx, p1, p2, ps, as, ks, os', rfl, hx, kA6.same s7, kOk, oA6.same s7, oOk, fun H8 s8 => ⟨_, rfl, ?_⟩⟩
      have s38 := same_tr sy (same_tr s7 s8)
      refine ⟨_, rfl, l, _, _, _, rfl, rfl, sqT_same s38 lA3, rfl, _, rfl, l, _, _, _, rfl, rfl, sqT_same s38 lA3, rfl, ?_⟩
      refine fun x' dx' nx' ndx' ne' => made1 (E := E0) (k0A3.same s38) k0Ok (o0A3.same s38) o0Ok nx' ndx' ne' fun H9 s9 hx' => ?_
      refine ⟨x', dx', _, rfl, hx', x', dx', k0, o0, p0, a0, ks0, os0, rfl, hx', (k0A3.same s38).same s9, k0Ok, (o0A3.same s38).same s9, o0Ok, fun H10 s10 => ⟨_, rfl, ?_⟩⟩
      have s310 := same_tr s38 (same_tr s9 s10)
      refine ⟨rfl, _, rfl, rfl, _, rfl, ite2 (fun z => ?_) (fun _ => ?_)⟩
      · have ti := told_iff kOk k0Ok oOk o0Ok
        have e : decide (V.str (page ks os') = V.str (page ks0 os0)) = decide (V.str (PyData.shown (.tuple [.tuple (ks0.map kD), .tuple (os0.map opD)])) = V.str (PyData.shown (.tuple [.tuple (ks.map kD), .tuple (os'.map opD)]))) := by
          rw [decide_eq_decide]
          exact ⟨fun q => congrArg V.str (ti.mpr (V.str.inj q)), fun q => congrArg V.str (ti.mp (V.str.inj q))⟩
        have z' : (!decide (V.bl (decide (V.str (page ks os') = V.str (page ks0 os0))) = V.bl (decide (V.str (PyData.shown (.tuple [.tuple (ks0.map kD), .tuple (os0.map opD)])) = V.str (PyData.shown (.tuple [.tuple (ks.map kD), .tuple (os'.map opD)])))))) = true := z
        rw [e, decide_eq_true rfl] at z'
        cases z'
      refine ⟨_, rfl, _, rfl, l2, fun g hg => ?_⟩
      have sg' := same_new (o := .tup [.ref p1, .ref p2]) s310 hg
      exact ⟨g, t1, _, _, _, _, _, _, rfl, ⟨p1, p2, ps, as, ks, os', SqT.of upd_same, kA.same sg', kOk, oA.same sg', oOk⟩, deck_same D3 sg', by omega, by rw [Int.natCast_succ]; omega⟩
    · rintro σ H2 ⟨l, t, o3, o4, o5, o6, o7, o8, rfl, _, D2, ta, tb⟩
      refine ⟨rfl, fun x dx H3 _ hx => ?_⟩
      refine ⟨l6, fun m1 hm1 => ?_⟩
      have em1 : upd H3 m1 (.lst A1) m1 = some (.lst A1) := upd_same
      have sm1 : Same H3 (upd H3 m1 (.lst A1)) := same_new same_rfl hm1
      show Ends.nx _ _ (upd H3 m1 (.lst A1))
      generalize upd H3 m1 (.lst A1) = G1 at em1 sm1
      refine ⟨_, rfl, (by show 3 ≤ sizeLine; rw [sizeLine_eq]; decide), fun m2 hm2 => ?_⟩
      refine ⟨m1, m2, _, _, rfl, rfl, (upd_ne (ne_of_none em1 hm2)).trans em1, upd_same, (by show 9 ≤ sizeLine; rw [sizeLine_eq]; decide), fun m3 hm3 => ?_⟩
      have em3 : upd (upd G1 m2 (.lst A2)) m3 (.lst (A1 ++ A2)) m3 = some (.lst (A1 ++ A2)) := upd_same
      have sm3 : Same H3 (upd (upd G1 m2 (.lst A2)) m3 (.lst (A1 ++ A2))) := same_new (same_new sm1 hm2) hm3
      show Ends.nx _ _ (upd (upd G1 m2 (.lst A2)) m3 (.lst (A1 ++ A2)))
      generalize upd (upd G1 m2 (.lst A2)) m3 (.lst (A1 ++ A2)) = G2 at em3 sm3
      refine ⟨_, rfl, (by show 2 ≤ sizeLine; exact l2), fun m4 hm4 => ?_⟩
      refine ⟨m3, m4, _, _, rfl, rfl, (upd_ne (ne_of_none em3 hm4)).trans em3, upd_same, (by show 11 ≤ sizeLine; rw [sizeLine_eq]; decide), fun m5 hm5 => ?_⟩
      have em5 : upd (upd G2 m4 (.lst A3)) m5 (.lst (A1 ++ A2 ++ A3)) m5 = some (.lst (A1 ++ A2 ++ A3)) := upd_same
      have sm5 : Same H3 (upd (upd G2 m4 (.lst A3)) m5 (.lst (A1 ++ A2 ++ A3))) := same_new (same_new sm3 hm4) hm5
      show Ends.nx _ _ (upd (upd G2 m4 (.lst A3)) m5 (.lst (A1 ++ A2 ++ A3)))
      generalize upd (upd G2 m4 (.lst A3)) m5 (.lst (A1 ++ A2 ++ A3)) = G3 at em5 sm5
      refine ⟨_, rfl, (by show 1 ≤ sizeLine; exact l1), fun m6 hm6 => ?_⟩
      refine ⟨m5, m6, _, _, rfl, rfl, (upd_ne (ne_of_none em5 hm6)).trans em5, upd_same, (by show 12 ≤ sizeLine; rw [sizeLine_eq]; decide), fun m7 hm7 => ?_⟩
      have em7 : upd (upd G3 m6 (.lst A4)) m7 (.lst (A1 ++ A2 ++ A3 ++ A4)) m7 = some (.lst (A1 ++ A2 ++ A3 ++ A4)) := upd_same
      have sn : Same H3 (upd (upd G3 m6 (.lst A4)) m7 (.lst (A1 ++ A2 ++ A3 ++ A4))) := same_new (same_new sm5 hm6) hm7
      show Ends.nx _ _ (upd (upd G3 m6 (.lst A4)) m7 (.lst (A1 ++ A2 ++ A3 ++ A4)))
      generalize upd (upd G3 m6 (.lst A4)) m7 (.lst (A1 ++ A2 ++ A3 ++ A4)) = G4 at em7 sn
      have hx7 := sn _ _ hx
      refine ⟨_, rfl, x, dx, _, rfl, hx7, x, dx, kk0, oo0, ps0, as0, stdKs, stdOs, rfl, hx7, S.ks _, std_ks, S.os _, std_os, fun H8 s8 => ⟨_, rfl, ?_⟩⟩
      refine ⟨⟨_, rfl⟩, _, rfl, _, m7, pageL stdKs stdOs, rfl, rfl, .inl (SqL.of (by rw [std_page]; exact s8 _ _ em7)), by rw [std_page]; decide +kernel, ?_⟩
      refine ⟨rfl, _, rfl, ite2 (fun _ => ?_) (fun z => absurd (decide_eq_true rfl) z)⟩
      have hx8 := s8 _ _ hx7
      refine ⟨_, rfl, x, C, dx, _, _, rfl, hx8, T.cl, T.nK, rfl, _, rfl, x, C, dx, _, _, rfl, hx8, T.cl, T.nO, rfl, kk0, oo0, ps0, as0, stdKs, stdOs, rfl, S.ks _, std_ks, S.os _, std_os, fun H9 _ => k _⟩
end
end K06

set_option Elab.async false
set_option linter.all false
set_option maxRecDepth 100000
set_option maxHeartbeats 4000000
/-! What the top has written, and the end. -/
namespace K06
open PySem PySem.Spec PyProof.Rows L2 Mine ClX
theorem sqK {K : PySem.W.Frag} {H : Hp} {a : Addr} {its : Array Value} {n : Nat} {sl : Array (Option Value)} {xs : List V} (l : K.lookup a = some ⟨.type "tuple", none, .seq its n, sl⟩) (v : Vals xs its.toList) (hz : its.size ≤ 16777216) : SqT K H a xs := .inr ⟨_, its, n, l, rfl, rfl, (by rw [sizeLine_eq]; exact hz), v⟩
theorem rI {i : Int} {t : PySem.Tok} : RelV (.int i) (.int i t) := ⟨t, rfl⟩
theorem rS {x : Str} {t : PySem.Tok} : RelV (.str x) (.str x t) := ⟨t, rfl⟩
section
variable {P : Program} {w : World} {K : PySem.W.Frag} {mg : Str → Option Value}
theorem find_nd {nd : Addr} {h0 h1 h2 h3 : Int} {nn : Nat} {kt0 kt1 kt2 kt3 vt0 vt1 vt2 vt3 : PySem.Tok} (l : K.lookup nd = some ⟨.type "dict", none, .dict #[⟨h0, .str (PySem.Str.ofString "0") kt0, .int 0 vt0⟩, ⟨h1, .str (PySem.Str.ofString "1") kt1, .int 1 vt1⟩, ⟨h2, .str (PySem.Str.ofString "2") kt2, .int 2 vt2⟩, ⟨h3, .str (PySem.Str.ofString "3") kt3, .int 3 vt3⟩] nn, #[]⟩) (x : Str) :
    (nmOf x = none → PySem.W.nsIn K nd x = some none) ∧ ∀ i, nmOf x = some i → ∃ u, PySem.W.nsIn K nd x = some (some u) ∧ RelV (.int i) u := by
  have e : PySem.W.nsIn K nd x = (match (#[⟨h0, .str (PySem.Str.ofString "0") kt0, .int 0 vt0⟩, ⟨h1, .str (PySem.Str.ofString "1") kt1, .int 1 vt1⟩, ⟨h2, .str (PySem.Str.ofString "2") kt2, .int 2 vt2⟩, ⟨h3, .str (PySem.Str.ofString "3") kt3, .int 3 vt3⟩] : Array DictEntry).toList.find? (·.key.isStr x) with
      | some e => some (some e.val)
      | none => if (#[⟨h0, .str (PySem.Str.ofString "0") kt0, .int 0 vt0⟩, ⟨h1, .str (PySem.Str.ofString "1") kt1, .int 1 vt1⟩, ⟨h2, .str (PySem.Str.ofString "2") kt2, .int 2 vt2⟩, ⟨h3, .str (PySem.Str.ofString "3") kt3, .int 3 vt3⟩] : Array DictEntry).toList.any (·.refKey) then none else some none) := by
    unfold PySem.W.nsIn
    rw [l]
    rfl
  have b : ∀ (y : Str) (t : PySem.Tok), (Value.str y t).isStr x = decide (x = y) := fun y t => by
    rw [PySem.W.isStr_of]
    by_cases h : x = y
    · subst h
      simp [Value.isStrOf]
    · rw [decide_eq_false h]
      simp only [Value.isStrOf]
      simpa using fun z => h z.symm
  rw [e]
  unfold nmOf num
  have e0 : PySem.Str.ofString (toString (0 : Int)) = PySem.Str.ofString "0" := by decide +kernel
  have e1 : PySem.Str.ofString (toString (1 : Int)) = PySem.Str.ofString "1" := by decide +kernel
  have e2 : PySem.Str.ofString (toString (2 : Int)) = PySem.Str.ofString "2" := by decide +kernel
  have e3 : PySem.Str.ofString (toString (3 : Int)) = PySem.Str.ofString "3" := by decide +kernel
  rw [e0, e1, e2, e3]
  simp only [List.find?, b]
  by_cases q0 : x = PySem.Str.ofString "0"
  · rw [if_pos q0, decide_eq_true q0]
    exact ⟨(fun z => nomatch z), fun i hi => by cases hi; exact ⟨_, rfl, ⟨_, rfl⟩⟩⟩
  rw [if_neg q0, decide_eq_false q0]
  by_cases q1 : x = PySem.Str.ofString "1"
  · rw [if_pos q1, decide_eq_true q1]
    exact ⟨(fun z => nomatch z), fun i hi => by cases hi; exact ⟨_, rfl, ⟨_, rfl⟩⟩⟩
  rw [if_neg q1, decide_eq_false q1]
  by_cases q2 : x = PySem.Str.ofString "2"
  · rw [if_pos q2, decide_eq_true q2]
    exact ⟨(fun z => nomatch z), fun i hi => by cases hi; exact ⟨_, rfl, ⟨_, rfl⟩⟩⟩
  rw [if_neg q2, decide_eq_false q2]
  by_cases q3 : x = PySem.Str.ofString "3"
  · rw [if_pos q3, decide_eq_true q3]
    exact ⟨(fun z => nomatch z), fun i hi => by cases hi; exact ⟨_, rfl, ⟨_, rfl⟩⟩⟩
  rw [if_neg q3, decide_eq_false q3]
  exact ⟨fun _ => rfl, fun i hi => nomatch hi⟩
theorem std_mk {kk oo ka0 ka1 ka2 ka3 ka4 ka5 oa0 oa1 oa2 oa3 oa4 oa5 ob0 ob1 ob2 ob3 ob4 ob5 oc1 oc4 oc5 : Addr} {t_ka0_0 t_ka0_1 t_ka1_0 t_ka1_1 t_ka2_0 t_ka2_1 t_ka3_0 t_ka3_1 t_ka4_0 t_ka4_1 t_ka5_0 t_ka5_1 t_oa0_0 t_oa0_1 t_oa0_2 t_oa1_0 t_oa1_1 t_oa1_2 t_oc1_0 t_oc1_1 t_oa2_0 t_oa2_1 t_oa2_2 t_oa3_0 t_oa3_1 t_oa3_2 t_oa4_0 t_oa4_1 t_oa4_2 t_oc4_0 t_oc4_1 t_oc4_2 t_oa5_0 t_oa5_1 t_oa5_2 t_oc5_0 t_oc5_1 t_oc5_2 : PySem.Tok} {n_kk n_ka0 n_ka1 n_ka2 n_ka3 n_ka4 n_ka5 n_oo n_oa0 n_ob0 n_oa1 n_ob1 n_oc1 n_oa2 n_ob2 n_oa3 n_ob3 n_oa4 n_ob4 n_oc4 n_oa5 n_ob5 n_oc5 : Nat} {s_kk s_ka0 s_ka1 s_ka2 s_ka3 s_ka4 s_ka5 s_oo s_oa0 s_ob0 s_oa1 s_ob1 s_oc1 s_oa2 s_ob2 s_oa3 s_ob3 s_oa4 s_ob4 s_oc4 s_oa5 s_ob5 s_oc5 : Array (Option Value)}
    (l_kk : K.lookup kk = some ⟨.type "tuple", none, .seq #[.ref ka0, .ref ka1, .ref ka2, .ref ka3, .ref ka4, .ref ka5] n_kk, s_kk⟩)
    (l_ka0 : K.lookup ka0 = some ⟨.type "tuple", none, .seq #[.str (PySem.Str.ofString "half") t_ka0_0, .int 1 t_ka0_1] n_ka0, s_ka0⟩)
    (l_ka1 : K.lookup ka1 = some ⟨.type "tuple", none, .seq #[.str (PySem.Str.ofString "lock") t_ka1_0, .int 2 t_ka1_1] n_ka1, s_ka1⟩)
    (l_ka2 : K.lookup ka2 = some ⟨.type "tuple", none, .seq #[.str (PySem.Str.ofString "mark") t_ka2_0, .int 1 t_ka2_1] n_ka2, s_ka2⟩)
    (l_ka3 : K.lookup ka3 = some ⟨.type "tuple", none, .seq #[.str (PySem.Str.ofString "pair") t_ka3_0, .int 2 t_ka3_1] n_ka3, s_ka3⟩)
    (l_ka4 : K.lookup ka4 = some ⟨.type "tuple", none, .seq #[.str (PySem.Str.ofString "seal") t_ka4_0, .int 2 t_ka4_1] n_ka4, s_ka4⟩)
    (l_ka5 : K.lookup ka5 = some ⟨.type "tuple", none, .seq #[.str (PySem.Str.ofString "sign") t_ka5_0, .int 2 t_ka5_1] n_ka5, s_ka5⟩)
    (l_oo : K.lookup oo = some ⟨.type "tuple", none, .seq #[.ref oa0, .ref oa1, .ref oa2, .ref oa3, .ref oa4, .ref oa5] n_oo, s_oo⟩)
    (l_oa0 : K.lookup oa0 = some ⟨.type "tuple", none, .seq #[.str (PySem.Str.ofString "first") t_oa0_0, .str (PySem.Str.ofString "pair") t_oa0_1, .int 0 t_oa0_2, .ref ob0] n_oa0, s_oa0⟩)
    (l_ob0 : K.lookup ob0 = some ⟨.type "tuple", none, .seq #[] n_ob0, s_ob0⟩)
    (l_oa1 : K.lookup oa1 = some ⟨.type "tuple", none, .seq #[.str (PySem.Str.ofString "open") t_oa1_0, .str (PySem.Str.ofString "lock") t_oa1_1, .int 0 t_oa1_2, .ref ob1] n_oa1, s_oa1⟩)
    (l_ob1 : K.lookup ob1 = some ⟨.type "tuple", none, .seq #[.ref oc1] n_ob1, s_ob1⟩)
    (l_oc1 : K.lookup oc1 = some ⟨.type "tuple", none, .seq #[.str (PySem.Str.ofString "part") t_oc1_0, .int 1 t_oc1_1] n_oc1, s_oc1⟩)
    (l_oa2 : K.lookup oa2 = some ⟨.type "tuple", none, .seq #[.str (PySem.Str.ofString "second") t_oa2_0, .str (PySem.Str.ofString "pair") t_oa2_1, .int 1 t_oa2_2, .ref ob2] n_oa2, s_oa2⟩)
    (l_ob2 : K.lookup ob2 = some ⟨.type "tuple", none, .seq #[] n_ob2, s_ob2⟩)
    (l_oa3 : K.lookup oa3 = some ⟨.type "tuple", none, .seq #[.str (PySem.Str.ofString "shown") t_oa3_0, .str (PySem.Str.ofString "sign") t_oa3_1, .int 0 t_oa3_2, .ref ob3] n_oa3, s_oa3⟩)
    (l_ob3 : K.lookup ob3 = some ⟨.type "tuple", none, .seq #[] n_ob3, s_ob3⟩)
    (l_oa4 : K.lookup oa4 = some ⟨.type "tuple", none, .seq #[.str (PySem.Str.ofString "signed") t_oa4_0, .str (PySem.Str.ofString "sign") t_oa4_1, .int 0 t_oa4_2, .ref ob4] n_oa4, s_oa4⟩)
    (l_ob4 : K.lookup ob4 = some ⟨.type "tuple", none, .seq #[.ref oc4] n_ob4, s_ob4⟩)
    (l_oc4 : K.lookup oc4 = some ⟨.type "tuple", none, .seq #[.str (PySem.Str.ofString "around") t_oc4_0, .str (PySem.Str.ofString "half") t_oc4_1, .int 1 t_oc4_2] n_oc4, s_oc4⟩)
    (l_oa5 : K.lookup oa5 = some ⟨.type "tuple", none, .seq #[.str (PySem.Str.ofString "unseal") t_oa5_0, .str (PySem.Str.ofString "seal") t_oa5_1, .int 0 t_oa5_2, .ref ob5] n_oa5, s_oa5⟩)
    (l_ob5 : K.lookup ob5 = some ⟨.type "tuple", none, .seq #[.ref oc5] n_ob5, s_ob5⟩)
    (l_oc5 : K.lookup oc5 = some ⟨.type "tuple", none, .seq #[.str (PySem.Str.ofString "inside") t_oc5_0, .int 1 t_oc5_1, .str (PySem.Str.ofString "half") t_oc5_2] n_oc5, s_oc5⟩) :
    Std K kk oo [ka0, ka1, ka2, ka3, ka4, ka5] [oa0, oa1, oa2, oa3, oa4, oa5] where
  ks := fun H => ⟨.inr ⟨(sqK l_kk (.cons rfl (.cons rfl (.cons rfl (.cons rfl (.cons rfl (.cons rfl .nil)))))) (by show 6 ≤ 16777216; decide)), _, l_kk, rfl⟩, (.cons (sqK l_ka0 (.cons rS (.cons rI .nil)) (by show 2 ≤ 16777216; decide)) (.cons (sqK l_ka1 (.cons rS (.cons rI .nil)) (by show 2 ≤ 16777216; decide)) (.cons (sqK l_ka2 (.cons rS (.cons rI .nil)) (by show 2 ≤ 16777216; decide)) (.cons (sqK l_ka3 (.cons rS (.cons rI .nil)) (by show 2 ≤ 16777216; decide)) (.cons (sqK l_ka4 (.cons rS (.cons rI .nil)) (by show 2 ≤ 16777216; decide)) (.cons (sqK l_ka5 (.cons rS (.cons rI .nil)) (by show 2 ≤ 16777216; decide)) .nil))))))⟩
  os := fun H => ⟨(sqK l_oo (.cons rfl (.cons rfl (.cons rfl (.cons rfl (.cons rfl (.cons rfl .nil)))))) (by show 6 ≤ 16777216; decide)), (.cons ⟨ob0, [], (sqK l_oa0 (.cons rS (.cons rS (.cons rI (.cons rfl .nil)))) (by show 4 ≤ 16777216; decide)), (sqK l_ob0 .nil (by show 0 ≤ 16777216; decide)), .nil⟩ (.cons ⟨ob1, [oc1], (sqK l_oa1 (.cons rS (.cons rS (.cons rI (.cons rfl .nil)))) (by show 4 ≤ 16777216; decide)), (sqK l_ob1 (.cons rfl .nil) (by show 1 ≤ 16777216; decide)), (.cons (sqK l_oc1 (.cons rS (.cons rI .nil)) (by show 2 ≤ 16777216; decide)) .nil)⟩ (.cons ⟨ob2, [], (sqK l_oa2 (.cons rS (.cons rS (.cons rI (.cons rfl .nil)))) (by show 4 ≤ 16777216; decide)), (sqK l_ob2 .nil (by show 0 ≤ 16777216; decide)), .nil⟩ (.cons ⟨ob3, [], (sqK l_oa3 (.cons rS (.cons rS (.cons rI (.cons rfl .nil)))) (by show 4 ≤ 16777216; decide)), (sqK l_ob3 .nil (by show 0 ≤ 16777216; decide)), .nil⟩ (.cons ⟨ob4, [oc4], (sqK l_oa4 (.cons rS (.cons rS (.cons rI (.cons rfl .nil)))) (by show 4 ≤ 16777216; decide)), (sqK l_ob4 (.cons rfl .nil) (by show 1 ≤ 16777216; decide)), (.cons (sqK l_oc4 (.cons rS (.cons rS (.cons rI .nil))) (by show 3 ≤ 16777216; decide)) .nil)⟩ (.cons ⟨ob5, [oc5], (sqK l_oa5 (.cons rS (.cons rS (.cons rI (.cons rfl .nil)))) (by show 4 ≤ 16777216; decide)), (sqK l_ob5 (.cons rfl .nil) (by show 1 ≤ 16777216; decide)), (.cons (sqK l_oc5 (.cons rS (.cons rI (.cons rS .nil))) (by show 3 ≤ 16777216; decide)) .nil)⟩ .nil))))))⟩
theorem all_mk {h : Heap} {fa : Addr}  (X : K.In h) (G : h.Ns mainGlobals mg) (hfa : mg "law" = some (.ref fa))
    {f_deck f_draw f_pick f_need f_kit f_page f_right f_law f_word f_int f_asc f_kinds f_kindq f_opens f_openq f_needq f_one f_std f_oline f_oin f_kl f_ol f_init f_str f_eq f_read C p_read kk oo nd : Addr}
    {od_deck an_deck od_draw an_draw od_pick an_pick od_need an_need od_kit an_kit od_page an_page od_right an_right od_law an_law od_word an_word od_int an_int od_asc an_asc od_kinds an_kinds od_kindq an_kindq od_opens an_opens od_openq an_openq od_needq an_needq od_one an_one od_std an_std od_oline an_oline od_oin an_oin od_kl an_kl od_ol an_ol od_init an_init od_str an_str od_eq an_eq od_read an_read : Option Addr}
    {sl_deck sl_draw sl_pick sl_need sl_kit sl_page sl_right sl_law sl_word sl_int sl_asc sl_kinds sl_kindq sl_opens sl_openq sl_needq sl_one sl_std sl_oline sl_oin sl_kl sl_ol sl_init sl_str sl_eq sl_read : Array (Option Value)}
    {oc_deck kV_deck dc_deck pm_deck cd_deck ct_deck oc_draw kV_draw dc_draw pm_draw cd_draw ct_draw oc_pick kV_pick dc_pick pm_pick cd_pick ct_pick oc_need kV_need dc_need pm_need cd_need ct_need oc_kit kV_kit dc_kit pm_kit cd_kit ct_kit oc_page kV_page dc_page pm_page cd_page ct_page oc_right kV_right dc_right pm_right cd_right ct_right oc_law kV_law dc_law pm_law cd_law ct_law oc_word kV_word dc_word pm_word cd_word ct_word oc_int kV_int dc_int pm_int cd_int ct_int oc_asc kV_asc dc_asc pm_asc cd_asc ct_asc oc_kinds kV_kinds dc_kinds pm_kinds cd_kinds ct_kinds oc_kindq kV_kindq dc_kindq pm_kindq cd_kindq ct_kindq oc_opens kV_opens dc_opens pm_opens cd_opens ct_opens oc_openq kV_openq dc_openq pm_openq cd_openq ct_openq oc_needq kV_needq dc_needq pm_needq cd_needq ct_needq oc_one kV_one dc_one pm_one cd_one ct_one oc_std kV_std dc_std pm_std cd_std ct_std oc_oline kV_oline dc_oline pm_oline cd_oline ct_oline oc_oin kV_oin dc_oin pm_oin cd_oin ct_oin oc_kl kV_kl dc_kl pm_kl cd_kl ct_kl oc_ol kV_ol dc_ol pm_ol cd_ol ct_ol oc_init kV_init dc_init pm_init cd_init ct_init oc_str kV_str dc_str pm_str cd_str ct_str oc_eq kV_eq dc_eq pm_eq cd_eq ct_eq oc_read kV_read dc_read pm_read cd_read ct_read : Value}
    {rest_read : List Value}
    {h0 h1 h2 h3 : Int} {nn : Nat} {ps0 as0 : List Addr}
    {t_longest t_letters t_mostp t_mostn kt0 kt1 kt2 kt3 vt0 vt1 vt2 vt3 : PySem.Tok}
    (a_deck : PySem.W.nsIn K mainGlobals "_law_deck" = some (some (.ref f_deck)))
    (l_deck : K.lookup f_deck = some ⟨oc_deck, od_deck, .func (PySem.W.fnOf "_law_deck" "_law_deck" (defArgs sDeck) (defBody sDeck) (defScope sDeck) .none kV_deck dc_deck pm_deck an_deck cd_deck ct_deck), sl_deck⟩)
    (c_deck : PySem.W.codeIn K cd_deck "_law_deck" = true)
    (k_deck : PySem.W.keepIn K (.ref f_deck) = true)
    (a_draw : PySem.W.nsIn K mainGlobals "_law_draw" = some (some (.ref f_draw)))
    (l_draw : K.lookup f_draw = some ⟨oc_draw, od_draw, .func (PySem.W.fnOf "_law_draw" "_law_draw" (defArgs sDraw) (defBody sDraw) (defScope sDraw) .none kV_draw dc_draw pm_draw an_draw cd_draw ct_draw), sl_draw⟩)
    (c_draw : PySem.W.codeIn K cd_draw "_law_draw" = true)
    (k_draw : PySem.W.keepIn K (.ref f_draw) = true)
    (a_pick : PySem.W.nsIn K mainGlobals "_law_pick" = some (some (.ref f_pick)))
    (l_pick : K.lookup f_pick = some ⟨oc_pick, od_pick, .func (PySem.W.fnOf "_law_pick" "_law_pick" (defArgs sPick) (defBody sPick) (defScope sPick) .none kV_pick dc_pick pm_pick an_pick cd_pick ct_pick), sl_pick⟩)
    (c_pick : PySem.W.codeIn K cd_pick "_law_pick" = true)
    (k_pick : PySem.W.keepIn K (.ref f_pick) = true)
    (a_need : PySem.W.nsIn K mainGlobals "_law_need" = some (some (.ref f_need)))
    (l_need : K.lookup f_need = some ⟨oc_need, od_need, .func (PySem.W.fnOf "_law_need" "_law_need" (defArgs sNeed) (defBody sNeed) (defScope sNeed) .none kV_need dc_need pm_need an_need cd_need ct_need), sl_need⟩)
    (c_need : PySem.W.codeIn K cd_need "_law_need" = true)
    (k_need : PySem.W.keepIn K (.ref f_need) = true)
    (a_kit : PySem.W.nsIn K mainGlobals "_law_kit" = some (some (.ref f_kit)))
    (l_kit : K.lookup f_kit = some ⟨oc_kit, od_kit, .func (PySem.W.fnOf "_law_kit" "_law_kit" (defArgs sKit) (defBody sKit) (defScope sKit) .none kV_kit dc_kit pm_kit an_kit cd_kit ct_kit), sl_kit⟩)
    (c_kit : PySem.W.codeIn K cd_kit "_law_kit" = true)
    (k_kit : PySem.W.keepIn K (.ref f_kit) = true)
    (a_page : PySem.W.nsIn K mainGlobals "_law_page" = some (some (.ref f_page)))
    (l_page : K.lookup f_page = some ⟨oc_page, od_page, .func (PySem.W.fnOf "_law_page" "_law_page" (defArgs sPage) (defBody sPage) (defScope sPage) .none kV_page dc_page pm_page an_page cd_page ct_page), sl_page⟩)
    (c_page : PySem.W.codeIn K cd_page "_law_page" = true)
    (k_page : PySem.W.keepIn K (.ref f_page) = true)
    (a_right : PySem.W.nsIn K mainGlobals "_law_right" = some (some (.ref f_right)))
    (l_right : K.lookup f_right = some ⟨oc_right, od_right, .func (PySem.W.fnOf "_law_right" "_law_right" (defArgs sRight) (defBody sRight) (defScope sRight) .none kV_right dc_right pm_right an_right cd_right ct_right), sl_right⟩)
    (c_right : PySem.W.codeIn K cd_right "_law_right" = true)
    (k_right : PySem.W.keepIn K (.ref f_right) = true)
    (a_law : PySem.W.nsIn K mainGlobals "law" = some (some (.ref f_law)))
    (l_law : K.lookup f_law = some ⟨oc_law, od_law, .func (PySem.W.fnOf "law" "law" (defArgs sLaw) (defBody sLaw) (defScope sLaw) .none kV_law dc_law pm_law an_law cd_law ct_law), sl_law⟩)
    (c_law : PySem.W.codeIn K cd_law "law" = true)
    (k_law : PySem.W.keepIn K (.ref f_law) = true)
    (a_word : PySem.W.nsIn K mainGlobals "is_word" = some (some (.ref f_word)))
    (l_word : K.lookup f_word = some ⟨oc_word, od_word, .func (PySem.W.fnOf "is_word" "is_word" (defArgs sWord) (defBody sWord) (defScope sWord) .none kV_word dc_word pm_word an_word cd_word ct_word), sl_word⟩)
    (c_word : PySem.W.codeIn K cd_word "is_word" = true)
    (k_word : PySem.W.keepIn K (.ref f_word) = true)
    (a_int : PySem.W.nsIn K mainGlobals "_is_integer" = some (some (.ref f_int)))
    (l_int : K.lookup f_int = some ⟨oc_int, od_int, .func (PySem.W.fnOf "_is_integer" "_is_integer" (defArgs sInt) (defBody sInt) (defScope sInt) .none kV_int dc_int pm_int an_int cd_int ct_int), sl_int⟩)
    (c_int : PySem.W.codeIn K cd_int "_is_integer" = true)
    (k_int : PySem.W.keepIn K (.ref f_int) = true)
    (a_asc : PySem.W.nsIn K mainGlobals "ascends" = some (some (.ref f_asc)))
    (l_asc : K.lookup f_asc = some ⟨oc_asc, od_asc, .func (PySem.W.fnOf "ascends" "ascends" (defArgs sAsc) (defBody sAsc) (defScope sAsc) .none kV_asc dc_asc pm_asc an_asc cd_asc ct_asc), sl_asc⟩)
    (c_asc : PySem.W.codeIn K cd_asc "ascends" = true)
    (k_asc : PySem.W.keepIn K (.ref f_asc) = true)
    (a_kinds : PySem.W.nsIn K mainGlobals "_are_kinds" = some (some (.ref f_kinds)))
    (l_kinds : K.lookup f_kinds = some ⟨oc_kinds, od_kinds, .func (PySem.W.fnOf "_are_kinds" "_are_kinds" (defArgs sKinds) (defBody sKinds) (defScope sKinds) .none kV_kinds dc_kinds pm_kinds an_kinds cd_kinds ct_kinds), sl_kinds⟩)
    (c_kinds : PySem.W.codeIn K cd_kinds "_are_kinds" = true)
    (k_kinds : PySem.W.keepIn K (.ref f_kinds) = true)
    (a_kindq : PySem.W.nsIn K mainGlobals "_is_kind" = some (some (.ref f_kindq)))
    (l_kindq : K.lookup f_kindq = some ⟨oc_kindq, od_kindq, .func (PySem.W.fnOf "_is_kind" "_is_kind" (defArgs sKindQ) (defBody sKindQ) (defScope sKindQ) .none kV_kindq dc_kindq pm_kindq an_kindq cd_kindq ct_kindq), sl_kindq⟩)
    (c_kindq : PySem.W.codeIn K cd_kindq "_is_kind" = true)
    (k_kindq : PySem.W.keepIn K (.ref f_kindq) = true)
    (a_opens : PySem.W.nsIn K mainGlobals "_are_openings" = some (some (.ref f_opens)))
    (l_opens : K.lookup f_opens = some ⟨oc_opens, od_opens, .func (PySem.W.fnOf "_are_openings" "_are_openings" (defArgs sOpens) (defBody sOpens) (defScope sOpens) .none kV_opens dc_opens pm_opens an_opens cd_opens ct_opens), sl_opens⟩)
    (c_opens : PySem.W.codeIn K cd_opens "_are_openings" = true)
    (k_opens : PySem.W.keepIn K (.ref f_opens) = true)
    (a_openq : PySem.W.nsIn K mainGlobals "_is_opening" = some (some (.ref f_openq)))
    (l_openq : K.lookup f_openq = some ⟨oc_openq, od_openq, .func (PySem.W.fnOf "_is_opening" "_is_opening" (defArgs sOpenQ) (defBody sOpenQ) (defScope sOpenQ) .none kV_openq dc_openq pm_openq an_openq cd_openq ct_openq), sl_openq⟩)
    (c_openq : PySem.W.codeIn K cd_openq "_is_opening" = true)
    (k_openq : PySem.W.keepIn K (.ref f_openq) = true)
    (a_needq : PySem.W.nsIn K mainGlobals "_is_need" = some (some (.ref f_needq)))
    (l_needq : K.lookup f_needq = some ⟨oc_needq, od_needq, .func (PySem.W.fnOf "_is_need" "_is_need" (defArgs sNeedQ) (defBody sNeedQ) (defScope sNeedQ) .none kV_needq dc_needq pm_needq an_needq cd_needq ct_needq), sl_needq⟩)
    (c_needq : PySem.W.codeIn K cd_needq "_is_need" = true)
    (k_needq : PySem.W.keepIn K (.ref f_needq) = true)
    (a_one : PySem.W.nsIn K mainGlobals "_has_one_part" = some (some (.ref f_one)))
    (l_one : K.lookup f_one = some ⟨oc_one, od_one, .func (PySem.W.fnOf "_has_one_part" "_has_one_part" (defArgs sOne) (defBody sOne) (defScope sOne) .none kV_one dc_one pm_one an_one cd_one ct_one), sl_one⟩)
    (c_one : PySem.W.codeIn K cd_one "_has_one_part" = true)
    (k_one : PySem.W.keepIn K (.ref f_one) = true)
    (a_std : PySem.W.nsIn K mainGlobals "standard_book" = some (some (.ref f_std)))
    (l_std : K.lookup f_std = some ⟨oc_std, od_std, .func (PySem.W.fnOf "standard_book" "standard_book" (defArgs sStd) (defBody sStd) (defScope sStd) .none kV_std dc_std pm_std an_std cd_std ct_std), sl_std⟩)
    (c_std : PySem.W.codeIn K cd_std "standard_book" = true)
    (k_std : PySem.W.keepIn K (.ref f_std) = true)
    (a_oline : PySem.W.nsIn K mainGlobals "_opening_line" = some (some (.ref f_oline)))
    (l_oline : K.lookup f_oline = some ⟨oc_oline, od_oline, .func (PySem.W.fnOf "_opening_line" "_opening_line" (defArgs sOLine) (defBody sOLine) (defScope sOLine) .none kV_oline dc_oline pm_oline an_oline cd_oline ct_oline), sl_oline⟩)
    (c_oline : PySem.W.codeIn K cd_oline "_opening_line" = true)
    (k_oline : PySem.W.keepIn K (.ref f_oline) = true)
    (a_oin : PySem.W.nsIn K mainGlobals "_opening_in" = some (some (.ref f_oin)))
    (l_oin : K.lookup f_oin = some ⟨oc_oin, od_oin, .func (PySem.W.fnOf "_opening_in" "_opening_in" (defArgs sOIn) (defBody sOIn) (defScope sOIn) .none kV_oin dc_oin pm_oin an_oin cd_oin ct_oin), sl_oin⟩)
    (c_oin : PySem.W.codeIn K cd_oin "_opening_in" = true)
    (k_oin : PySem.W.keepIn K (.ref f_oin) = true)
    (a_kl : PySem.W.nsIn K mainGlobals "_is_kind_line" = some (some (.ref f_kl)))
    (l_kl : K.lookup f_kl = some ⟨oc_kl, od_kl, .func (PySem.W.fnOf "_is_kind_line" "_is_kind_line" (defArgs sKL) (defBody sKL) (defScope sKL) .none kV_kl dc_kl pm_kl an_kl cd_kl ct_kl), sl_kl⟩)
    (c_kl : PySem.W.codeIn K cd_kl "_is_kind_line" = true)
    (k_kl : PySem.W.keepIn K (.ref f_kl) = true)
    (a_ol : PySem.W.nsIn K mainGlobals "_is_opening_line" = some (some (.ref f_ol)))
    (l_ol : K.lookup f_ol = some ⟨oc_ol, od_ol, .func (PySem.W.fnOf "_is_opening_line" "_is_opening_line" (defArgs sOL) (defBody sOL) (defScope sOL) .none kV_ol dc_ol pm_ol an_ol cd_ol ct_ol), sl_ol⟩)
    (c_ol : PySem.W.codeIn K cd_ol "_is_opening_line" = true)
    (k_ol : PySem.W.keepIn K (.ref f_ol) = true)
    (a_C : PySem.W.nsIn K mainGlobals "Book" = some (some (.ref C)))
    (a_init : PySem.W.findIn K (.ref C) "__init__" = some (some (.ref f_init)))
    (i_init : PySem.W.isFn K (.ref f_init) = true)
    (l_init : K.lookup f_init = some ⟨oc_init, od_init, .func (PySem.W.fnOf "__init__" "Book.__init__" (defArgs sInit) (defBody sInit) (defScope sInit) .none kV_init dc_init pm_init an_init cd_init ct_init), sl_init⟩)
    (c_init : PySem.W.codeIn K cd_init "Book.__init__" = true)
    (k_init : PySem.W.keepIn K (.ref f_init) = true)
    (a_str : PySem.W.findIn K (.ref C) "__str__" = some (some (.ref f_str)))
    (i_str : PySem.W.isFn K (.ref f_str) = true)
    (l_str : K.lookup f_str = some ⟨oc_str, od_str, .func (PySem.W.fnOf "__str__" "Book.__str__" (defArgs sStr) (defBody sStr) (defScope sStr) .none kV_str dc_str pm_str an_str cd_str ct_str), sl_str⟩)
    (c_str : PySem.W.codeIn K cd_str "Book.__str__" = true)
    (k_str : PySem.W.keepIn K (.ref f_str) = true)
    (a_eq : PySem.W.findIn K (.ref C) "__eq__" = some (some (.ref f_eq)))
    (i_eq : PySem.W.isFn K (.ref f_eq) = true)
    (l_eq : K.lookup f_eq = some ⟨oc_eq, od_eq, .func (PySem.W.fnOf "__eq__" "Book.__eq__" (defArgs sEq) (defBody sEq) (defScope sEq) .none kV_eq dc_eq pm_eq an_eq cd_eq ct_eq), sl_eq⟩)
    (c_eq : PySem.W.codeIn K cd_eq "Book.__eq__" = true)
    (k_eq : PySem.W.keepIn K (.ref f_eq) = true)
    (cr1_read : PySem.W.readsIn K C (.type "type") = true)
    (cr2_read : PySem.W.specialIn K (.ref C) "__getattribute__" = some (some (.builtin "type.__getattribute__")))
    (cm1_read : PySem.W.findCls K (.ref C) (.type "type") "read" = some (.get (.builtin "classmethod.__get__") (.ref p_read) .none (.ref C)))
    (cm2_read : PySem.W.recIn K p_read "classmethod" = some (.ref f_read :: rest_read))
    (cm3_read : PySem.W.fnIn K f_read = true)
    (l_read : K.lookup f_read = some ⟨oc_read, od_read, .func (PySem.W.fnOf "read" "Book.read" (defArgs sRead) (defBody sRead) (defScope sRead) .none kV_read dc_read pm_read an_read cd_read ct_read), sl_read⟩)
    (c_read : PySem.W.codeIn K cd_read "Book.read" = true)
    (k_read : PySem.W.keepIn K (.ref f_read) = true)
    (pg : PySem.W.plainGet K C Str.empty = true)
    (hd : PySem.W.hasDictIn K C = true)
    (po : PySem.W.plainOver K C = true)
    (sa : PySem.W.findIn K (.ref C) "__setattr__" = some (some (.builtin "object.__setattr__")))
    (mk : PySem.W.makesIn K C = true)
    (kc : PySem.W.keepIn K (.ref C) = true)
    (nK : PySem.W.findIn K (.ref C) "kinds" = some none)
    (nO : PySem.W.findIn K (.ref C) "openings" = some none)
    (ica : PySem.W.findIn K (.ref C) "__class__" = some (some (.builtin "object.__class__")))
    (icn : PySem.W.specialIn K (.builtin "object.__class__") "__get__" = some (some (.builtin "getset_descriptor.__get__")))
    (ict : PySem.W.takesIn K (.builtin "object.__class__") = some true)
    (icm : PySem.W.mroIn K C (.type "object") = some true)
    (g_longest : PySem.W.nsIn K mainGlobals "LONGEST" = some (some (.int 8 t_longest)))
    (g_letters : PySem.W.nsIn K mainGlobals "LETTERS" = some (some (.str (PySem.Str.ofString "abcdefghijklmnopqrstuvwxyz") t_letters)))
    (g_mostp : PySem.W.nsIn K mainGlobals "MOST_PARTS" = some (some (.int 3 t_mostp)))
    (g_mostn : PySem.W.nsIn K mainGlobals "MOST_NEEDS" = some (some (.int 2 t_mostn)))
    (z_int : PySem.W.nsIn K mainGlobals "int" = some none)
    (z_list : PySem.W.nsIn K mainGlobals "list" = some none)
    (z_range : PySem.W.nsIn K mainGlobals "range" = some none)
    (z_tuple : PySem.W.nsIn K mainGlobals "tuple" = some none)
    (z_isinstance : PySem.W.nsIn K mainGlobals "isinstance" = some none)
    (z_repr : PySem.W.nsIn K mainGlobals "repr" = some none)
    (z_str : PySem.W.nsIn K mainGlobals "str" = some none)
    (z_bool : PySem.W.nsIn K mainGlobals "bool" = some none)
    (z_len : PySem.W.nsIn K mainGlobals "len" = some none)
    (z_all : PySem.W.nsIn K mainGlobals "all" = some none)
    (z_zip : PySem.W.nsIn K mainGlobals "zip" = some none)
    (z_dict : PySem.W.nsIn K mainGlobals "dict" = some none)
    (z_enumerate : PySem.W.nsIn K mainGlobals "enumerate" = some none)
    (a_kk : PySem.W.nsIn K mainGlobals "STANDARD_KINDS" = some (some (.ref kk)))
    (a_oo : PySem.W.nsIn K mainGlobals "STANDARD_OPENINGS" = some (some (.ref oo)))
    (a_nd : PySem.W.nsIn K mainGlobals "NUMERALS" = some (some (.ref nd)))
    (l_nd : K.lookup nd = some ⟨.type "dict", none, .dict #[⟨h0, .str (PySem.Str.ofString "0") kt0, .int 0 vt0⟩, ⟨h1, .str (PySem.Str.ofString "1") kt1, .int 1 vt1⟩, ⟨h2, .str (PySem.Str.ofString "2") kt2, .int 2 vt2⟩, ⟨h3, .str (PySem.Str.ofString "3") kt3, .int 3 vt3⟩] nn, #[]⟩)
    (lit_nd : PySem.W.KeysLit w.params (#[⟨h0, .str (PySem.Str.ofString "0") kt0, .int 0 vt0⟩, ⟨h1, .str (PySem.Str.ofString "1") kt1, .int 1 vt1⟩, ⟨h2, .str (PySem.Str.ofString "2") kt2, .int 2 vt2⟩, ⟨h3, .str (PySem.Str.ofString "3") kt3, .int 3 vt3⟩] : Array DictEntry).toList)
    (low_nd : (nd == sysModules) = false)
    (S : Std K kk oo ps0 as0) :
    ∃ fd : FuncData, (∀ (s : Shared) (v : Value), BindsTo s fd ⟨[v], []⟩ [("_law_script", v)]) ∧ ∀ base : Heap, K.In base → base.Ns mainGlobals mg → FnG P w K mg base 11 fa fd ["_law_script"] (spLaw K) := by
  have e := hfa.symm.trans (PySem.W.mg_of X G a_law)
  cases e
  have F_deck := fun_mk (st := sDeck) l_deck c_deck k_deck
  have F_draw := fun_mk (st := sDraw) l_draw c_draw k_draw
  have F_pick := fun_mk (st := sPick) l_pick c_pick k_pick
  have F_need := fun_mk (st := sNeed) l_need c_need k_need
  have F_kit := fun_mk (st := sKit) l_kit c_kit k_kit
  have F_page := fun_mk (st := sPage) l_page c_page k_page
  have F_right := fun_mk (st := sRight) l_right c_right k_right
  have F_law := fun_mk (st := sLaw) l_law c_law k_law
  have F_word := fun_mk (st := sWord) l_word c_word k_word
  have F_int := fun_mk (st := sInt) l_int c_int k_int
  have F_asc := fun_mk (st := sAsc) l_asc c_asc k_asc
  have F_kinds := fun_mk (st := sKinds) l_kinds c_kinds k_kinds
  have F_kindq := fun_mk (st := sKindQ) l_kindq c_kindq k_kindq
  have F_opens := fun_mk (st := sOpens) l_opens c_opens k_opens
  have F_openq := fun_mk (st := sOpenQ) l_openq c_openq k_openq
  have F_needq := fun_mk (st := sNeedQ) l_needq c_needq k_needq
  have F_one := fun_mk (st := sOne) l_one c_one k_one
  have F_std := fun_mk (st := sStd) l_std c_std k_std
  have F_oline := fun_mk (st := sOLine) l_oline c_oline k_oline
  have F_oin := fun_mk (st := sOIn) l_oin c_oin k_oin
  have F_kl := fun_mk (st := sKL) l_kl c_kl k_kl
  have F_ol := fun_mk (st := sOL) l_ol c_ol k_ol
  have F_init := fun_mk (st := sInit) l_init c_init k_init
  have F_str := fun_mk (st := sStr) l_str c_str k_str
  have F_eq := fun_mk (st := sEq) l_eq c_eq k_eq
  have F_read := fun_mk (st := sRead) l_read c_read k_read
  have b_deck := F_deck.binds (ps := ["_law_script"]) fun _ _ _ _ _ _ us hl => match us, hl with | [_], _ => rfl
  have b_draw := F_draw.binds (ps := ["_law_deck_here", "_law_below"]) fun _ _ _ _ _ _ us hl => match us, hl with | [_, _], _ => rfl
  have b_pick := F_pick.binds (ps := ["_law_deck_here", "_law_some"]) fun _ _ _ _ _ _ us hl => match us, hl with | [_, _], _ => rfl
  have b_need := F_need.binds (ps := ["_law_deck_here", "_law_singles", "_law_many"]) fun _ _ _ _ _ _ us hl => match us, hl with | [_, _, _], _ => rfl
  have b_kit := F_kit.binds (ps := ["_law_deck_here"]) fun _ _ _ _ _ _ us hl => match us, hl with | [_], _ => rfl
  have b_page := F_page.binds (ps := ["_law_makes", "_law_taking"]) fun _ _ _ _ _ _ us hl => match us, hl with | [_, _], _ => rfl
  have b_right := F_right.binds (ps := ["_law_makes", "_law_taking"]) fun _ _ _ _ _ _ us hl => match us, hl with | [_, _], _ => rfl
  have b_word := F_word.binds (ps := ["thing"]) fun _ _ _ _ _ _ us hl => match us, hl with | [_], _ => rfl
  have b_int := F_int.binds (ps := ["value", "low", "high"]) fun _ _ _ _ _ _ us hl => match us, hl with | [_, _, _], _ => rfl
  have b_asc := F_asc.binds (ps := ["texts"]) fun _ _ _ _ _ _ us hl => match us, hl with | [_], _ => rfl
  have b_kinds := F_kinds.binds (ps := ["kinds"]) fun _ _ _ _ _ _ us hl => match us, hl with | [_], _ => rfl
  have b_kindq := F_kindq.binds (ps := ["kind"]) fun _ _ _ _ _ _ us hl => match us, hl with | [_], _ => rfl
  have b_opens := F_opens.binds (ps := ["counts", "openings"]) fun _ _ _ _ _ _ us hl => match us, hl with | [_, _], _ => rfl
  have b_openq := F_openq.binds (ps := ["counts", "opening"]) fun _ _ _ _ _ _ us hl => match us, hl with | [_, _], _ => rfl
  have b_needq := F_needq.binds (ps := ["counts", "last", "need"]) fun _ _ _ _ _ _ us hl => match us, hl with | [_, _, _], _ => rfl
  have b_one := F_one.binds (ps := ["counts", "kind"]) fun _ _ _ _ _ _ us hl => match us, hl with | [_, _], _ => rfl
  have b_std := F_std.binds (ps := []) fun _ _ _ _ _ _ us hl => match us, hl with | [], _ => rfl
  have b_oline := F_oline.binds (ps := ["opening"]) fun _ _ _ _ _ _ us hl => match us, hl with | [_], _ => rfl
  have b_oin := F_oin.binds (ps := ["parts"]) fun _ _ _ _ _ _ us hl => match us, hl with | [_], _ => rfl
  have b_kl := F_kl.binds (ps := ["kinds", "parts"]) fun _ _ _ _ _ _ us hl => match us, hl with | [_, _], _ => rfl
  have b_ol := F_ol.binds (ps := ["kinds", "openings", "parts"]) fun _ _ _ _ _ _ us hl => match us, hl with | [_, _, _], _ => rfl
  have b_init := F_init.binds (ps := ["self", "kinds", "openings"]) fun _ _ _ _ _ _ us hl => match us, hl with | [_, _, _], _ => rfl
  have b_str := F_str.binds (ps := ["self"]) fun _ _ _ _ _ _ us hl => match us, hl with | [_], _ => rfl
  have b_eq := F_eq.binds (ps := ["self", "other"]) fun _ _ _ _ _ _ us hl => match us, hl with | [_, _], _ => rfl
  have b_read := F_read.binds (ps := ["cls", "text"]) fun _ _ _ _ _ _ us hl => match us, hl with | [_, _], _ => rfl
  have TD : TxtD mg := ⟨(PySem.W.mg_none_of X G z_int), (PySem.W.mg_none_of X G z_list)⟩
  have TP : TxtP K mg f_draw f_pick := { toTxtD := TD, len := (PySem.W.mg_none_of X G z_len), gD := (PySem.W.mg_of X G a_draw), kD := k_draw, gP := (PySem.W.mg_of X G a_pick), kP := k_pick }
  have TK : TxtK K mg f_draw f_pick f_need := { toTxtP := TP, range := (PySem.W.mg_none_of X G z_range), tuple := (PySem.W.mg_none_of X G z_tuple), gN := (PySem.W.mg_of X G a_need), kN := k_need }
  have TW : TxtW mg := { isi := (PySem.W.mg_none_of X G z_isinstance), str := (PySem.W.mg_none_of X G z_str), int := (PySem.W.mg_none_of X G z_int), bool := (PySem.W.mg_none_of X G z_bool), tuple := (PySem.W.mg_none_of X G z_tuple), len := (PySem.W.mg_none_of X G z_len), all := (PySem.W.mg_none_of X G z_all), zip := (PySem.W.mg_none_of X G z_zip), dict := (PySem.W.mg_none_of X G z_dict), longest := ⟨_, PySem.W.mg_of X G g_longest, rI⟩, letters := ⟨_, PySem.W.mg_of X G g_letters, rS⟩ }
  have TB : TxtB K mg f_word f_int f_asc := { toTxtW := TW, gW := (PySem.W.mg_of X G a_word), kW := k_word, gI := (PySem.W.mg_of X G a_int), kI := k_int, gA := (PySem.W.mg_of X G a_asc), kA := k_asc, mostP := ⟨_, PySem.W.mg_of X G g_mostp, rI⟩, mostN := ⟨_, PySem.W.mg_of X G g_mostn, rI⟩ }
  have cl : Cls K C := ⟨pg, hd, po, sa⟩
  have TI : TxtI K mg C f_kinds f_opens := ⟨cl, nK, nO, (PySem.W.mg_of X G a_kinds), k_kinds, (PySem.W.mg_of X G a_opens), k_opens⟩
  have TS : TxtS K mg C kk oo := ⟨(PySem.W.mg_of X G a_C), ⟨_, PySem.W.mg_of X G a_kk, rfl⟩, ⟨_, PySem.W.mg_of X G a_oo, rfl⟩⟩
  have TO : TxtO mg := ⟨(PySem.W.mg_none_of X G z_str)⟩
  have TSt : TxtSt K mg C f_oline := ⟨cl, nK, nO, (PySem.W.mg_of X G a_oline), k_oline⟩
  have TEq : TxtEq K mg C := ⟨cl, nK, nO, (PySem.W.mg_none_of X G z_isinstance), (PySem.W.mg_of X G a_C), ica, icn, ict, icm⟩
  have TOI : TxtOI mg := ⟨(PySem.W.mg_none_of X G z_len), (PySem.W.mg_none_of X G z_tuple)⟩
  have TKL : TxtKL K mg f_kindq := ⟨(PySem.W.mg_none_of X G z_tuple), (PySem.W.mg_of X G a_kindq), k_kindq⟩
  have TOL : TxtOL K mg f_openq f_oin := ⟨(PySem.W.mg_none_of X G z_len), (PySem.W.mg_none_of X G z_dict), (PySem.W.mg_of X G a_openq), k_openq, (PySem.W.mg_of X G a_oin), k_oin⟩
  have TRd : TxtRd K w mg C f_kl f_ol f_oin nd #[⟨h0, .str (PySem.Str.ofString "0") kt0, .int 0 vt0⟩, ⟨h1, .str (PySem.Str.ofString "1") kt1, .int 1 vt1⟩, ⟨h2, .str (PySem.Str.ofString "2") kt2, .int 2 vt2⟩, ⟨h3, .str (PySem.Str.ofString "3") kt3, .int 3 vt3⟩] nn := ⟨(PySem.W.mg_none_of X G z_isinstance), (PySem.W.mg_none_of X G z_str), (PySem.W.mg_none_of X G z_tuple), (PySem.W.mg_none_of X G z_enumerate), ⟨_, PySem.W.mg_of X G a_nd, rfl⟩, ⟨l_nd, lit_nd, low_nd⟩, find_nd l_nd, (PySem.W.mg_of X G a_kl), k_kl, (PySem.W.mg_of X G a_ol), k_ol, (PySem.W.mg_of X G a_oin), k_oin⟩
  have TRi : TxtRi K mg C f_page f_str f_eq := ⟨TEq, (PySem.W.mg_none_of X G z_repr), (PySem.W.mg_none_of X G z_str), (PySem.W.mg_of X G a_page), k_page, a_str, i_str, a_eq, i_eq⟩
  have TL : TxtL K mg C f_deck f_kit f_right f_std f_str := ⟨cl, nK, nO, (PySem.W.mg_none_of X G z_range), (PySem.W.mg_none_of X G z_repr), (PySem.W.mg_none_of X G z_str), (PySem.W.mg_of X G a_C), (PySem.W.mg_of X G a_deck), k_deck, (PySem.W.mg_of X G a_kit), k_kit, (PySem.W.mg_of X G a_right), k_right, (PySem.W.mg_of X G a_std), k_std, a_str, i_str⟩
  have bK : ∀ (s : Shared) (a u : Value), BindsTo s (PySem.W.fnOf "read" "Book.read" (defArgs sRead) (defBody sRead) (defScope sRead) .none kV_read dc_read pm_read an_read cd_read ct_read) ⟨[a], [(PySem.Str.ofString "text", u)]⟩ ((["cls", "text"] : List Str).zip [a, u]) := fun s a u => .of_eq rfl
  refine ⟨(PySem.W.fnOf "law" "law" (defArgs sLaw) (defBody sLaw) (defScope sLaw) .none kV_law dc_law pm_law an_law cd_law ct_law), fun s v => .of_eq rfl, fun base _ _ => ?_⟩
  have GD : FnOk P w K mg base CX0 1 f_draw _ ["_law_deck_here", "_law_below"] spDraw := ok_draw F_draw TD
  have GP := ok_pick F_pick GD b_draw TP
  have GN := ok_need F_need GD b_draw GP b_pick TP
  have GT := ok_kit F_kit GD b_draw GP b_pick GN b_need TK
  have L : Lows P w K mg base f_word f_int f_asc _ _ _ := ⟨ok_word F_word TW, b_word, ok_int F_int TW, b_int, ok_asc F_asc TW, b_asc⟩
  have GQ := ok_kindQ F_kindq TB L
  have GK := ok_kinds F_kinds TB L GQ b_kindq (PySem.W.mg_of X G a_kindq) k_kindq
  have GO1 := ok_one F_one TB L
  have GNQ := ok_needQ F_needq TB L GO1 b_one (PySem.W.mg_of X G a_one) k_one
  have GOQ := ok_openQ F_openq TB L GNQ b_needq (PySem.W.mg_of X G a_needq) k_needq
  have GO := ok_opens F_opens TB L GOQ b_openq (PySem.W.mg_of X G a_openq) k_openq
  have GI := ok_init (fW := f_word) (fI := f_word) (fA := f_word) F_init TI TW GK b_kinds GO b_opens
  have MK : Mk K C f_init := ⟨mk, a_init, i_init, kc⟩
  have GS := ok_std F_std TS S MK GI b_init
  have GOL := ok_oline (P := P) (w := w) (base := base) F_oline TO
  have GSt := ok_str F_str TSt GOL b_oline
  have GE := ok_eq (P := P) (w := w) (base := base) F_eq TEq
  have GPg := ok_page (P := P) (w := w) (base := base) F_page TO
  have GOI := ok_oin (P := P) (w := w) (base := base) F_oin TOI
  have GKL := ok_kl F_kl TKL GQ b_kindq
  have GOLn := ok_ol F_ol TOL GOQ b_openq GOI b_oin
  have GRd := ok_read F_read TRd GKL b_kl GOLn b_ol GOI b_oin MK GI b_init
  have GR := ok_right F_right TRi MK GI b_init GPg b_page GSt b_str GE b_eq ⟨cr1_read, cr2_read⟩ ⟨cm1_read, ⟨_, cm2_read⟩, cm3_read⟩ GRd b_read bK
  exact ok_law F_law TL S (ok_deck F_deck TD) b_deck GT b_kit MK GI b_init GS b_std GSt b_str GR b_right
end
end K06

open PySem PySem.W PyProof.Rows
set_option Elab.async false
set_option maxRecDepth 100000 in
set_option maxHeartbeats 0 in
theorem PySem.Challenge.cw_sealedalike_k06_texts_of_books_holds : PySem.Challenge.rw_sealedalike_k06_texts_of_books.Holds := by
  w_on; o_law; k_head; (case hw => w_witness2)
  k_fill
  refine Mine.walkG (l := PySem.Challenge.rw_sealedalike_k06_texts_of_books) (k := 11) (n := 63) (x := "_law_script") (sp := K06.spLaw) rfl (by decide) rfl ⟨rfl, by decide, by decide⟩ (fun w h Y => PySem.W.kIn_of Y) ?F (fun K H a ns hl _ hS => ⟨a, ns, rfl, hS, hl, fun _ => rfl⟩)
  case F =>
    intro w mg fa h KX G hmg
    refine' K06.all_mk KX G hmg ?q9a_deck ?q9l_deck ?q9c_deck ?q9k_deck ?q9a_draw ?q9l_draw ?q9c_draw ?q9k_draw ?q9a_pick ?q9l_pick ?q9c_pick ?q9k_pick ?q9a_need ?q9l_need ?q9c_need ?q9k_need ?q9a_kit ?q9l_kit ?q9c_kit ?q9k_kit ?q9a_page ?q9l_page ?q9c_page ?q9k_page ?q9a_right ?q9l_right ?q9c_right ?q9k_right ?q9a_law ?q9l_law ?q9c_law ?q9k_law ?q9a_word ?q9l_word ?q9c_word ?q9k_word ?q9a_int ?q9l_int ?q9c_int ?q9k_int ?q9a_asc ?q9l_asc ?q9c_asc ?q9k_asc ?q9a_kinds ?q9l_kinds ?q9c_kinds ?q9k_kinds ?q9a_kindq ?q9l_kindq ?q9c_kindq ?q9k_kindq ?q9a_opens ?q9l_opens ?q9c_opens ?q9k_opens ?q9a_openq ?q9l_openq ?q9c_openq ?q9k_openq ?q9a_needq ?q9l_needq ?q9c_needq ?q9k_needq ?q9a_one ?q9l_one ?q9c_one ?q9k_one ?q9a_std ?q9l_std ?q9c_std ?q9k_std ?q9a_oline ?q9l_oline ?q9c_oline ?q9k_oline ?q9a_oin ?q9l_oin ?q9c_oin ?q9k_oin ?q9a_kl ?q9l_kl ?q9c_kl ?q9k_kl ?q9a_ol ?q9l_ol ?q9c_ol ?q9k_ol ?q9a_C ?q9a_init ?q9i_init ?q9l_init ?q9c_init ?q9k_init ?q9a_str ?q9i_str ?q9l_str ?q9c_str ?q9k_str ?q9a_eq ?q9i_eq ?q9l_eq ?q9c_eq ?q9k_eq ?q9cr1_read ?q9cr2_read ?q9cm1_read ?q9cm2_read ?q9cm3_read ?q9l_read ?q9c_read ?q9k_read ?q9pg ?q9hd ?q9po ?q9sa ?q9mk ?q9kc ?q9nK ?q9nO ?q9ica ?q9icn ?q9ict ?q9icm ?q9g_longest ?q9g_letters ?q9g_mostp ?q9g_mostn ?q9z_int ?q9z_list ?q9z_range ?q9z_tuple ?q9z_isinstance ?q9z_repr ?q9z_str ?q9z_bool ?q9z_len ?q9z_all ?q9z_zip ?q9z_dict ?q9z_enumerate ?q9a_kk ?q9a_oo ?q9a_nd ?q9l_nd ?q9lit_nd ?q9low_nd ?q9std
    (case q9a_deck => k_is)
    (case q9l_deck => k_is)
    (case q9c_deck => k_is)
    (case q9k_deck => k_is)
    (case q9a_draw => k_is)
    (case q9l_draw => k_is)
    (case q9c_draw => k_is)
    (case q9k_draw => k_is)
    (case q9a_pick => k_is)
    (case q9l_pick => k_is)
    (case q9c_pick => k_is)
    (case q9k_pick => k_is)
    (case q9a_need => k_is)
    (case q9l_need => k_is)
    (case q9c_need => k_is)
    (case q9k_need => k_is)
    (case q9a_kit => k_is)
    (case q9l_kit => k_is)
    (case q9c_kit => k_is)
    (case q9k_kit => k_is)
    (case q9a_page => k_is)
    (case q9l_page => k_is)
    (case q9c_page => k_is)
    (case q9k_page => k_is)
    (case q9a_right => k_is)
    (case q9l_right => k_is)
    (case q9c_right => k_is)
    (case q9k_right => k_is)
    (case q9a_law => k_is)
    (case q9l_law => k_is)
    (case q9c_law => k_is)
    (case q9k_law => k_is)
    (case q9a_word => k_is)
    (case q9l_word => k_is)
    (case q9c_word => k_is)
    (case q9k_word => k_is)
    (case q9a_int => k_is)
    (case q9l_int => k_is)
    (case q9c_int => k_is)
    (case q9k_int => k_is)
    (case q9a_asc => k_is)
    (case q9l_asc => k_is)
    (case q9c_asc => k_is)
    (case q9k_asc => k_is)
    (case q9a_kinds => k_is)
    (case q9l_kinds => k_is)
    (case q9c_kinds => k_is)
    (case q9k_kinds => k_is)
    (case q9a_kindq => k_is)
    (case q9l_kindq => k_is)
    (case q9c_kindq => k_is)
    (case q9k_kindq => k_is)
    (case q9a_opens => k_is)
    (case q9l_opens => k_is)
    (case q9c_opens => k_is)
    (case q9k_opens => k_is)
    (case q9a_openq => k_is)
    (case q9l_openq => k_is)
    (case q9c_openq => k_is)
    (case q9k_openq => k_is)
    (case q9a_needq => k_is)
    (case q9l_needq => k_is)
    (case q9c_needq => k_is)
    (case q9k_needq => k_is)
    (case q9a_one => k_is)
    (case q9l_one => k_is)
    (case q9c_one => k_is)
    (case q9k_one => k_is)
    (case q9a_std => k_is)
    (case q9l_std => k_is)
    (case q9c_std => k_is)
    (case q9k_std => k_is)
    (case q9a_oline => k_is)
    (case q9l_oline => k_is)
    (case q9c_oline => k_is)
    (case q9k_oline => k_is)
    (case q9a_oin => k_is)
    (case q9l_oin => k_is)
    (case q9c_oin => k_is)
    (case q9k_oin => k_is)
    (case q9a_kl => k_is)
    (case q9l_kl => k_is)
    (case q9c_kl => k_is)
    (case q9k_kl => k_is)
    (case q9a_ol => k_is)
    (case q9l_ol => k_is)
    (case q9c_ol => k_is)
    (case q9k_ol => k_is)
    (case q9a_C => k_is)
    (case q9a_init => k_is)
    (case q9i_init => k_is)
    (case q9l_init => k_is)
    (case q9c_init => k_is)
    (case q9k_init => k_is)
    (case q9a_str => k_is)
    (case q9i_str => k_is)
    (case q9l_str => k_is)
    (case q9c_str => k_is)
    (case q9k_str => k_is)
    (case q9a_eq => k_is)
    (case q9i_eq => k_is)
    (case q9l_eq => k_is)
    (case q9c_eq => k_is)
    (case q9k_eq => k_is)
    (case q9cr1_read => k_is)
    (case q9cr2_read => k_is)
    (case q9cm1_read => k_is)
    (case q9cm2_read => k_is)
    (case q9cm3_read => k_is)
    (case q9l_read => k_is)
    (case q9c_read => k_is)
    (case q9k_read => k_is)
    (case q9pg => k_is)
    (case q9hd => k_is)
    (case q9po => k_is)
    (case q9sa => k_is)
    (case q9mk => k_is)
    (case q9kc => k_is)
    (case q9nK => k_is)
    (case q9nO => k_is)
    (case q9ica => k_is)
    (case q9icn => k_is)
    (case q9ict => k_is)
    (case q9icm => k_is)
    (case q9g_longest => k_is)
    (case q9g_letters => k_is)
    (case q9g_mostp => k_is)
    (case q9g_mostn => k_is)
    (case q9z_int => k_is)
    (case q9z_list => k_is)
    (case q9z_range => k_is)
    (case q9z_tuple => k_is)
    (case q9z_isinstance => k_is)
    (case q9z_repr => k_is)
    (case q9z_str => k_is)
    (case q9z_bool => k_is)
    (case q9z_len => k_is)
    (case q9z_all => k_is)
    (case q9z_zip => k_is)
    (case q9z_dict => k_is)
    (case q9z_enumerate => k_is)
    (case q9a_kk => k_is)
    (case q9a_oo => k_is)
    (case q9a_nd => k_is)
    (case q9l_nd => k_is)
    (case q9lit_nd => k_keys)
    (case q9low_nd => decide)
    case q9std =>
      refine' K06.std_mk ?q8l_kk ?q8l_ka0 ?q8l_ka1 ?q8l_ka2 ?q8l_ka3 ?q8l_ka4 ?q8l_ka5 ?q8l_oo ?q8l_oa0 ?q8l_ob0 ?q8l_oa1 ?q8l_ob1 ?q8l_oc1 ?q8l_oa2 ?q8l_ob2 ?q8l_oa3 ?q8l_ob3 ?q8l_oa4 ?q8l_ob4 ?q8l_oc4 ?q8l_oa5 ?q8l_ob5 ?q8l_oc5
      (case q8l_kk => k_is)
      (case q8l_ka0 => k_is)
      (case q8l_ka1 => k_is)
      (case q8l_ka2 => k_is)
      (case q8l_ka3 => k_is)
      (case q8l_ka4 => k_is)
      (case q8l_ka5 => k_is)
      (case q8l_oo => k_is)
      (case q8l_oa0 => k_is)
      (case q8l_ob0 => k_is)
      (case q8l_oa1 => k_is)
      (case q8l_ob1 => k_is)
      (case q8l_oc1 => k_is)
      (case q8l_oa2 => k_is)
      (case q8l_ob2 => k_is)
      (case q8l_oa3 => k_is)
      (case q8l_ob3 => k_is)
      (case q8l_oa4 => k_is)
      (case q8l_ob4 => k_is)
      (case q8l_oc4 => k_is)
      (case q8l_oa5 => k_is)
      (case q8l_ob5 => k_is)
      (case q8l_oc5 => k_is)

