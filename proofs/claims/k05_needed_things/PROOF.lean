import PyProof.Rows.All
import Wide.All
import OpenK.AllK
import Wide.FinOn
import PyProof.ReprRoads
import KE.KExcIs
import KE.KExcInit
import HandS.ForMost
import HandS.Exc
import HandS.TryMany
import HandS.ExcOwn
import HandS.ExcInit
import HandS.IsInst
import HandS.Style
import HandS.ExcValue
import KE.KDictPairs
import HandS.Walk
import HandS.Codes
import HandS.Text
import HandS.Deep
import PySem.Challenge.RW_sealedalike_k05_needed_things
set_option Elab.async false
set_option linter.all false
set_option maxRecDepth 100000
set_option maxHeartbeats 2000000
namespace Mine
open PySem PySem.Spec PyProof.Rows L2

/-- the chain of classes above the package's own errors -/
abbrev chain : List Value := [.type "Exception", .type "BaseException", .type "object"]

/-- what the top says of an error class, whoever reads its instances -/
structure ErrA (K : PySem.W.Frag) (C : Addr) : Prop where
  kp : PySem.W.keepIn K (.ref C) = true
  cl : PySem.W.isClsIn K C = true
  ga : PySem.W.findIn K (.ref C) "__getattribute__" = some (some (.builtin "BaseException.__getattribute__"))
  gg : PySem.W.findIn K (.ref C) "__getattr__" = some none
  su : PySem.W.subIn K (.ref C) (.type "BaseException") = some true
  ca : PySem.W.findIn K (.ref C) "__class__" = some (some (.builtin "object.__class__"))
  cn : PySem.W.specialIn K (.builtin "object.__class__") "__get__" = some (some (.builtin "getset_descriptor.__get__"))
  ct : PySem.W.takesIn K (.builtin "object.__class__") = some true
  cm : PySem.W.mroIn K C (.type "object") = some true
  ty : PySem.W.typeIn K (.ref C) = some (.type "type")
  hd : PySem.W.hasDictIn K C = true

/-- an error object at a, of the class at C: bare, or with its dict -/
def EAt (H : Hp) (a C : Addr) : Option (Addr × List (Str × V)) → Prop
  | none => H a = some (exo a C none)
  | some (dx, fs) => H a = some (exo a C (some dx)) ∧ H dx = some (exd dx fs)

theorem EAt.inst {X : Cx} {pins : List (Addr × Obj)} {σ : L2.St} {H : Hp} {s : Shared} {a C : Addr} {o : Option (Addr × List (Str × V))} (I : Inv X pins σ H s) (h : EAt H a C o) :
    ∃ ox od, PySem.W.InstAt s.heap a ox C od := by
  cases o with
  | none =>
    obtain ⟨t, e⟩ := exo_at I.hok h
    exact ⟨_, none, e, rfl, rfl, trivial⟩
  | some p =>
    obtain ⟨dx, fs⟩ := p
    obtain ⟨t, e⟩ := exo_at I.hok h.1
    obtain ⟨m, ⟨od, es, ep, e2, _⟩, _⟩ := exd_at I.hok h.2
    exact ⟨_, some od, e, rfl, rfl, e2⟩

/-! isinstance of an error that is held -/
def rIs (K : PySem.W.Frag) : List V → Hp → VK → Prop := fun xs H Q => ∃ (a C : Addr) (o : Option (Addr × List (Str × V))) (c : V) (u : Value) (b : Bool),
  xs = [.ref a, c] ∧ EAt H a C o ∧ ErrA K C ∧ ClsV c u ∧ PySem.W.kitOne K (.ref C) u = some b ∧ Q (.bl b) H
def rIsMany (K : PySem.W.Frag) : List V → Hp → VK → Prop := fun xs H Q => ∃ (a C tp : Addr) (o : Option (Addr × List (Str × V))) (cs : List V) (us : List Value) (b : Bool),
  xs = [.ref a, .ref tp] ∧ EAt H a C o ∧ ErrA K C ∧ H tp = some (.tup cs) ∧ Paired ClsV cs us ∧ PySem.W.kitAny K (.ref C) us = some b ∧ Q (.bl b) H
theorem isOne {X : Cx} : CallR X (.builtin "isinstance") (rIs X.K) := by
  intro pins s σ H xs us Q I r h
  obtain ⟨a, C, o, c, u, b, rfl, ha, T, k, e, q⟩ := h
  obtain ⟨u1, u2, rfl, r1, r2⟩ := vals2 r
  have e2 := k.eq r2
  subst e2
  cases (show u1 = Value.ref a from r1)
  obtain ⟨ox, od, J⟩ := ha.inst I
  have Z : PySem.W.KitX X.K (.ref a) (.ref C) (fun h => PySem.W.InstAt h a ox C od) := PySem.W.kitx_exc T.cl T.ga T.gg T.su T.ca T.cn T.ct T.cm
  exact PySem.W.kia_one Z I.kIn J e (fun z => nomatch z) fun tk => ⟨.bl b, H, I.tok tk, rfl, q⟩
theorem isMany {X : Cx} : CallR X (.builtin "isinstance") (rIsMany X.K) := by
  intro pins s σ H xs us Q I r h
  obtain ⟨a, C, tp, o, cs, ws, b, rfl, ha, T, hT, k, e, q⟩ := h
  obtain ⟨u1, u2, rfl, r1, r2⟩ := vals2 r
  cases (show u1 = Value.ref a from r1)
  cases (show u2 = Value.ref tp from r2)
  obtain ⟨ox, od, J⟩ := ha.inst I
  obtain ⟨_, its, rv, o', h1, h2, n, h3⟩ := (show ObjOk X.prog X.w H s.heap tp (.tup cs) from I.hok tp _ hT)
  have e3 := ClsV.all k rv
  subst e3
  obtain ⟨oc, od', dt, sl⟩ := o'
  simp only at h2 h3
  subst h2 h3
  have Z : PySem.W.KitX X.K (.ref a) (.ref C) (fun h => PySem.W.InstAt h a ox C od) := PySem.W.kitx_exc T.cl T.ga T.gg T.su T.ca T.cn T.ct T.cm
  exact PySem.W.kia_tup Z I.kIn J h1 e (fun z => nomatch z) fun tk => ⟨.bl b, H, I.tok tk, rfl, q⟩

/-! a field of an error that is held -/
def tFld (K : PySem.W.Frag) (n : Str) (te : TE) : TE := fun σ H Q => te σ H fun x H1 => ∃ (a C dx : Addr) (fs : List (Str × V)) (v : V), x = .ref a ∧ EAt H1 a C (some (dx, fs)) ∧ ErrA K C ∧ PySem.W.findIn K (.ref C) n = some none ∧ fs.lookup n = some v ∧ Q v H1
theorem pe_efld {X : Cx} {e : Expr} {te : TE} {pos : Pos} {n : Str} (he : PE X e te) (hb : attributeBase e n X.env (eval e X.env) = eval e X.env := by rfl) : PE X (.Attribute e n pos) (tFld X.K n te) := by
  refine ⟨fun pins s σ H Q I h => ?_⟩
  refine attr_of hb (thn (he.run pins s σ H _ I h) fun u s1 hh => ?_)
  obtain ⟨x, H1, I1, rx, a, C, dx, fs, v, ex, ea, T, hno, l, q⟩ := hh
  subst ex
  obtain rfl : u = Value.ref a := rx
  obtain ⟨t, hx⟩ := exo_at I1.hok ea.1
  obtain ⟨mA, hns, hr⟩ := exd_at I1.hok ea.2
  obtain ⟨od, ho, hl⟩ := lookIn_ns hns
  obtain ⟨u, hu, ru⟩ := RelO.some_of (v := v) (o := mA n) (by rw [← l]; exact hr n)
  have J : PySem.W.InstAt s1.heap a _ C (some od) := ⟨hx, rfl, rfl, ho⟩
  exact HandSPX.exc_get I1.kIn J T.ga T.gg T.su (PySem.W.findObj_own T.hd hno rfl (by rw [hl, hu])) (handed_of ru) ⟨v, H1, I1.tok _, ru, q⟩

/-! two new objects beside all that was there: an error and its dict -/
theorem inv_two {X : Cx} {pins : List (Addr × Obj)} {σ : L2.St} {H : Hp} {s : Shared} {h' : Heap} {a dx : Addr} {o u : HO} {tk : Nat} (I : Inv X pins σ H s) (k : ∀ b z, s.heap.get? b = some z → h'.get? b = some z) (ha : s.heap.objs.size ≤ a) (hd : s.heap.objs.size ≤ dx) (ne : dx ≠ a)
    (oa : ObjOk X.prog X.w (upd (upd H dx u) a o) h' a o) (ou : ObjOk X.prog X.w (upd (upd H dx u) a o) h' dx u) : Inv X pins σ (upd (upd H dx u) a o) { s with heap := h', toks := tk } := by
  have na := I.hok.fresh ha
  have nd := I.hok.fresh hd
  have kept : ∀ {b : Addr} {z : HO}, H b = some z → upd (upd H dx u) a o b = some z := fun {b z} e => by
    rw [upd_ne (ne_of_none e na), upd_ne (ne_of_none e nd)]
    exact e
  have un : Un X.fs [] H (upd (upd H dx u) a o) s.heap h' := {
    keep := fun b z e _ _ _ => k b z e
    slot := fun b z e _ _ _ => ⟨z.slots, k b z e⟩
    free := fun b z e n _ => by
      have lt := Heap.lt_size e
      rw [upd_ne (Nat.ne_of_lt (Nat.lt_of_lt_of_le lt ha)), upd_ne (Nat.ne_of_lt (Nat.lt_of_lt_of_le lt hd))]
      exact n
    there := fun b z e _ => ⟨z, k b z e⟩
    tups := fun _ _ e => kept e
    frzs := fun _ _ _ e => kept e
    tbls := fun b ps e => ⟨#[], by rw [kept e, Array.append_empty]⟩ }
  refine I.un (t' := tk) un fun b z e => ?_
  by_cases hb : b = a
  · subst hb
    rw [upd_same] at e
    cases e
    exact oa
  · rw [upd_ne hb] at e
    by_cases hbd : b = dx
    · subst hbd
      rw [upd_same] at e
      cases e
      exact ou
    · rw [upd_ne hbd] at e
      exact (I.hok b z e).stay (fun c v _ y => k c v y) (fun _ y => kept y) fun _ _ y => kept y
end Mine

set_option Elab.async false
set_option linter.all false
set_option maxRecDepth 100000
set_option maxHeartbeats 4000000
/-! An error class over Exception, called with values and names: the object is made, then its own __init__ runs. -/
namespace Mine
open PySem PySem.Spec L2
section
variable {prog : Program} {w : World} {M : Model} {A : Around} {E : Value → Shared → Prop} {R : Result → Shared → Prop} {h : Heap} {g : Array GenState} {d : Drawn} {t : Nat} {os : OsState}
variable {nm q : Str} {C N : Addr} {bs bm bmB : List Value} {hdct : Bool} {sn : List Str} {sub : List Value} {ab : Bool} {col : Option Bool} {dd : Option Addr} {k0 k1 k2 k3 k5 : Option Value} {B newId initId : String}
/-- the object alone -/
abbrev bareE (C t : Addr) : Obj := HandSPX.excO C t
theorem newOk_kw (F : ExcBaseFacts B newId initId bmB) (hT : ∀ X : String, bm.contains (.type X) = bmB.contains (.type X)) {rest : List Value} {kw : List (Str × Value)} {Q : Unit → Shared → Prop}
    (hC : h.get? C = some (excClassObj nm q C N bs bm hdct sn sub ab col dd k0 k1 k2 k3 k5 newId)) (z : Q () ⟨h, g, d, t, os⟩) : wpAny M A (checkBuiltinCall newId ⟨.ref C :: rest, kw⟩) Q E ⟨h, g, d, t, os⟩ := by
  have has : (Value.ref C :: bm).contains (.type B) = true := by rw [List.contains_cons, hT, F.hasB, Bool.or_true]
  have st := F.noStar
  simp only [checkBuiltinCall, F.newKind, F.newSplit, F.newRow]
  repeat (first | refine wpAny_loadPart_at hC ?_ | (refine wpAny_isSubtype_exc hC ?_; rw [has]) | refine wpAny_staticBase_exc hC ?_ | refine wpAny_madeBy_exc hC ?_ | simp only [bne_self_eq_false, Bool.false_eq_true, if_false] | wp_step)
  exact z
theorem newRun_kw (F : ExcBaseFacts B newId initId bmB) (hT : ∀ X : String, bm.contains (.type X) = bmB.contains (.type X)) {rest : List Value} {kw : List (Str × Value)}
    (hC : h.get? C = some (excClassObj nm q C N bs bm hdct sn sub ab col dd k0 k1 k2 k3 k5 newId)) (fits : rest.length ≤ sizeLine)
    (z : R (.ok (.ret (.ref (h.objs.size + 1)))) ⟨(h.push (W.kdv_tup rest)).push (bareE C h.objs.size), g, d, t, os⟩) :
    codeAny (model prog w) A (.builtin newId ⟨.ref C :: rest, kw⟩) R ⟨h, g, d, t, os⟩ := by
  have en := F.ends
  have hB : (Value.ref C :: bm).contains (.type B) = true := by rw [List.contains_cons, hT, F.hasB, Bool.or_true]
  have hA : (Value.ref C :: bm).contains (.type "AttributeError") = false := by rw [List.contains_cons, hT, F.noAttr]; rfl
  have hN : (Value.ref C :: bm).contains (.type "NameError") = false := by rw [List.contains_cons, hT, F.noName]; rfl
  refine codeAny_builtinAt F.entry ?_
  unfold Builtin.«BaseException.__new__»
  refine wpAt_bind ?_
  show wpAt _ _ _ (stack >>= _) _ _ _
  refine wpAt_bind (wpAt_stack fun p below => wpAt_of_wpAny ?_)
  wp_walk
  refine wpAt_of_wpAny ?_
  rw [F.owner]
  repeat (first | with_reducible refine wpAny_madeHere_exc F.canon hC ?_ | with_reducible refine wpAny_loadPart_at hC ?_ | (with_reducible refine wpAny_isSubtype_exc hC ?_; first | rw [hB] | rw [hA] | rw [hN]) | wp_step)
  show R _ _
  rw [Heap.size_push]
  exact z
theorem typeCall_kw (F : ExcBaseFacts B newId initId bmB) (hT : ∀ X : String, bm.contains (.type X) = bmB.contains (.type X)) {rest : List Value} {kw : List (Str × Value)} {fI : Addr} {Q : Fin → Shared → Prop}
    (hC : h.get? C = some (excClassObj nm q C N bs bm hdct sn sub ab col dd k0 k1 k2 k3 k5 newId)) (fits : rest.length ≤ sizeLine)
    (hi : W.Looks (model prog w) h (typeLookup (.ref C) "__init__") (some (.ref fI))) (hb : ∀ self, W.Looks (model prog w) h (bindSpecial (.ref fI) self) (.ref fI, [self]))
    (z : codeAny (model prog w) A (.call (.ref fI) ⟨.ref (h.objs.size + 1) :: rest, kw⟩)
      (fun r s' => match r with | .ok (.ret v) => v = .none ∧ Q (.done (.ret (.ref (h.objs.size + 1)))) s' | .ok _ => False | .error e => E e s') ⟨(h.push (W.kdv_tup rest)).push (bareE C h.objs.size), g, d, t, os⟩) :
    wpAny (model prog w) A (Builtin.«type.__call__» ⟨.ref C :: rest, kw⟩) Q E ⟨h, g, d, t, os⟩ := by
  repeat (first | with_reducible refine wpAny_loadPart_at hC ?_ | with_reducible refine wpAny_madeBy_exc hC ?_ | wp_step)
  refine codeAny_call_builtin_code (Code.quiet_builtin _ F.quiet) (newOk_kw F hT hC ?_)
  refine newRun_kw F hT hC fits ?_
  show wpAny _ _ _ _ _ _
  have k : ∀ b o, h.get? b = some o → ((h.push (W.kdv_tup rest)).push (bareE C h.objs.size)).get? b = some o := fun b o e => Heap.get?_push_of_some _ (Heap.get?_push_of_some _ e)
  have hC1 := k _ _ hC
  have he : ((h.push (W.kdv_tup rest)).push (bareE C h.objs.size)).get? (h.objs.size + 1) = some (bareE C h.objs.size) := by heap_get
  have own : (Value.ref C :: bm).contains (.ref C) = true := by simp
  have i1 := hi.keeps k
  have b1 := (hb (.ref (h.objs.size + 1))).keeps k
  unfold isInstance
  repeat (first | with_reducible refine wpAny_loadPart_at he ?_ | (with_reducible refine wpAny_isSubtype_exc hC1 ?_; rw [own]) | wp_step)
  show wpAny _ _ (typeLookup (.ref C) _) _ _ _
  refine i1.at ?_
  refine wpAny_holding (wpAny_bind (b1.at ?_))
  refine wpAny_bind (wpAny_call (codeAny_mono z fun r s' y => ?_))
  rcases r with e | (v | _ | _ | _) <;> first | exact y | exact y.elim | skip
  obtain ⟨rfl, y⟩ := y
  first
    | exact wpAny_pure (wpAny_pure y)
    | (wp_walk; exact y)
theorem call_kw (F : ExcBaseFacts B newId initId bmB) (hT : ∀ X : String, bm.contains (.type X) = bmB.contains (.type X)) {rest : List Value} {kw : List (Str × Value)} {fI : Addr}
    (hC : h.get? C = some (excClassObj nm q C N bs bm hdct sn sub ab col dd k0 k1 k2 k3 k5 newId)) (fits : rest.length ≤ sizeLine)
    (hi : W.Looks (model prog w) h (typeLookup (.ref C) "__init__") (some (.ref fI))) (hb : ∀ self, W.Looks (model prog w) h (bindSpecial (.ref fI) self) (.ref fI, [self]))
    (z : codeAny (model prog w) (A.under (.builtin "type.__call__" ⟨.ref C :: rest, kw⟩)) (.call (.ref fI) ⟨.ref (h.objs.size + 1) :: rest, kw⟩) (W.InitBack (h.objs.size + 1) R) ⟨(h.push (W.kdv_tup rest)).push (bareE C h.objs.size), g, d, t, os⟩) :
    codeAny (model prog w) A (.call (.ref C) ⟨rest, kw⟩) R ⟨h, g, d, t, os⟩ := by
  have f1 := tc_lookup
  have f2 := tc_bind (.ref C)
  have hTy : (⟨h, g, d, t, os⟩ : Shared).TypeIs (.ref C) "type" := ⟨_, hC, rfl⟩
  refine codeAny_of_tree ?_
  show wpAny _ _ (callAny (.ref C) _) _ _ _
  repeat (any_goals (first | assumption | with_reducible refine wpAny_loadPart_at hC ?_ | wp_step))
  refine ⟨rfl, ?_⟩
  refine codeAny_call_builtin_at (Code.quiet_builtin _ (by decide +kernel)) entry_typeCall (wpAny_check_type_call_sub hC (typeCall_kw F hT hC fits hi hb ?_))
  refine codeAny_mono z fun r s' y => ?_
  rcases r with e | (v | _ | _ | _) <;> exact y
end
end Mine

set_option Elab.async false
set_option linter.all false
set_option maxRecDepth 100000
set_option maxHeartbeats 4000000
/-! A def __init__(self, f) that stores f, run on a bare error; errors made by value and by name, and raised. -/
namespace Mine
open PySem PySem.Spec L2
/-- the text of such a def -/
structure Ini (q : Str) (st : Stmt) (f : Str) : Prop where
  body : ∃ q1 q2 q3 q4, defBody st = [.Assign [.Attribute (.Name "self" q1) f q2] (.Name f q3) q4]
  names : (defScope st).names = [(PySem.Str.ofString "self", .local), (f, .local)]
  kind : (defScope st).kind = .function
  co : (defScope st).isCoroutine = false
  gen : (defScope st).isGenerator = false
  b1 : ∀ (kV doc pm : Value) (an : Option Addr) (cdv ct x v : Value), bindArgs (PySem.W.fnOf "__init__" q (defArgs st) (defBody st) (defScope st) .none kV doc pm an cdv ct) ⟨[x, v], []⟩ = pure [(PySem.Str.ofString "self", x), (f, v)]
  b2 : ∀ (kV doc pm : Value) (an : Option Addr) (cdv ct x v : Value), bindArgs (PySem.W.fnOf "__init__" q (defArgs st) (defBody st) (defScope st) .none kV doc pm an cdv ct) ⟨[x], [(f, v)]⟩ = pure [(PySem.Str.ofString "self", x), (f, v)]
  ne : (f == (PySem.Str.ofString "self")) = false
  db : (f == (PySem.Str.ofString "__debug__")) = false
/-- an error class with such an __init__, its field f -/
structure ErrF (K : PySem.W.Frag) (mg : Str → Option Value) (x f : Str) (C fI : Addr) : Prop extends ErrA K C where
  g : mg x = some (.ref C)
  new : PySem.W.excInitIn K C chain "Exception.__new__" = true
  over : PySem.W.excOver K C chain = true
  sa : PySem.W.findIn K (.ref C) "__setattr__" = some (some (.builtin "object.__setattr__"))
  tk : PySem.W.takerIn K C f = some none
  no : PySem.W.findIn K (.ref C) f = some none
  ini : PySem.W.findIn K (.ref C) "__init__" = some (some (.ref fI))
  tI : PySem.W.typeIn K (.ref fI) = some (.type "function")
  txt : ∃ (q : Str) (st : Stmt) (fd : FuncData), Fun K "__init__" q st fI fd ∧ Ini q st f
/-- an error class without -/
structure ErrN (K : PySem.W.Frag) (mg : Str → Option Value) (x : Str) (C : Addr) : Prop extends ErrA K C where
  g : mg x = some (.ref C)
  new : PySem.W.excIn K C chain "Exception.__new__" = true

section
variable {prog : Program} {w : World} {A : Around} {E : Value → Shared → Prop} {R : Result → Shared → Prop} {K : PySem.W.Frag} {mg : Str → Option Value} {x f : Str} {C fI : Addr}
/-- an error object, dict and all -/
abbrev fullE (C t dx : Addr) : Obj := { cls := .ref C, dict := some dx, data := .fields #[.ref t, .none, .none, .none, .bool false, .none] }
/-- what the call of __init__ leaves -/
structure Stored (h h' : Heap) (e C t dx : Addr) (f : Str) (v : Value) : Prop where
  keep : ∀ b o, b ≠ e → h.get? b = some o → h'.get? b = some o
  obj : h'.get? e = some (fullE C t dx)
  big : h.objs.size ≤ dx
  ne : dx ≠ e
  ns : h'.Ns1 dx (fun y => if y = f then some v else none)
theorem store_bare (T : ErrF K mg x f C fI) {e t : Addr} {v : Value} {tk : Tok} {s : Shared} (X : K.In s.heap) (he : s.heap.get? e = some (bareE C t))
    (z : ∀ h' tk' dx, Stored s.heap h' e C t dx f v → R (.ok (.ret .none)) { s with heap := h', toks := tk' }) :
    codeAny (model prog w) A (.call (.builtin "object.__setattr__") ⟨[.ref e, .str f tk, v], []⟩) R s := by
  obtain ⟨hp, g, d, tt, os⟩ := s
  have he' : hp.get? e = some (bareE C t) := he
  have X' : K.In hp := X
  have J : PySem.W.InstAt hp e (bareE C t) C none := ⟨he', rfl, rfl, trivial⟩
  have ne : e ≠ hp.objs.size := Nat.ne_of_lt (Heap.lt_size he')
  obtain ⟨cd, hc, hm⟩ := PySem.W.any_some T.hd
  have hcls : PySem.W.Looks (model prog w) hp (classData C) cd := PySem.W.looks_clsIn X' hc
  refine PySem.W.osa_openX (s := ⟨hp, g, d, tt, os⟩) (od := none) PySem.F.store_Exception X J T.over T.tk fun b => ?_
  show wpAny _ _ (Builtin.ObjectAttr.storeInOwnDict (.ref e) (.ref C) (.str f tk) f v b) _ _ _
  obtain ⟨nm, bs, mro, ns, qn, hdd, sn, sb, ab, col, del⟩ := cd
  dsimp only at hm
  subst hm
  have first : hp.get? e = some (bareE C t) → ((hp.push { cls := .type "dict", data := .dict #[] }).update e fun o => { o with dict := some hp.objs.size }).Ns hp.objs.size fun _ => none := fun _ =>
    ⟨_, #[], _, (Heap.get?_update_ne _ _ _ _ ne.symm).trans (Heap.get?_push_at rfl rfl), rfl, fun y hy => absurd hy (by simp), fun _ => rfl⟩
  have last : ∀ (h' : Heap) (tk' : Nat), h'.Ns1 hp.objs.size (fun y => if y = f then some v else none) → Heap.SameBut hp.objs.size ((hp.push { cls := .type "dict", data := .dict #[] }).update e fun o => { o with dict := some hp.objs.size }) h' →
      R (.ok (.ret .none)) ⟨h', g, d, tk', os⟩ := fun h' tk' hn hs => by
    have e1 : (hp.push { cls := .type "dict", data := .dict #[] }).get? e = some (bareE C t) := Heap.get?_push_of_some _ he'
    refine z h' tk' hp.objs.size ⟨fun b o hb ho => ?_, ?_, Nat.le_refl _, ne.symm, hn⟩
    · exact (hs.2 b (Nat.ne_of_lt (Heap.lt_size ho))).trans ((Heap.get?_update_ne _ _ _ _ hb).trans (Heap.get?_push_of_some _ ho))
    · exact (hs.2 e ne).trans (Heap.get?_update_self _ e1 rfl)
  unfold Builtin.ObjectAttr.storeInOwnDict Builtin.ObjectAttr.ownDictForStores
  cases b
  all_goals
    repeat (first | with_reducible refine HandSPX.store_in_new ?_ ?_ | with_reducible refine wpAny_loadPart_at he' ?_ | with_reducible refine hcls.at ?_ | wp_step)
  all_goals first | exact first he' | exact last
theorem find_loc {P : Shared → Prop} {s : Shared} {nm q : Str} {sc : Scope} {L a : Addr} {cd : Value} {m : Str → Option Value} {y : Str} {pos : Pos} {v : Value} {Q : Value → Shared → Prop} (hn : s.heap.Ns L m) (hv : m y = some v) (z : Q v s)
    (hk : sc.kind = .function) (hl : sc.names.lookup y = some .local) (hd : (y == (PySem.Str.ofString "__debug__")) = false) :
    wpAny (model prog w) A (eval (.Name y pos) (PyProof.Rows.envOfC q sc L a cd)) Q E s := wpAny_Name (wpAny_loadName_local hk hl hn hv z) hd
/-- the call of __init__ on a bare error -/
theorem init_run (T : ErrF K mg x f C fI) {e t : Addr} {v : Value} {args : Args} {s : Shared} (X : K.In s.heap) (lim : s.heap.NoLimit) (he : s.heap.get? e = some (bareE C t)) (room : A.depth < recursionLimit)
    (hargs : args = ⟨[.ref e, v], []⟩ ∨ args = ⟨[.ref e], [(f, v)]⟩)
    (z : ∀ h' tk' dx, Stored s.heap h' e C t dx f v → R (.ok (.ret .none)) { s with heap := h', toks := tk' }) :
    codeAny (model prog w) A (.call (.ref fI) args) R s := by
  obtain ⟨q, st, fd, F, T1⟩ := T.txt
  obtain ⟨oc, od, kV, doc, pm, an, cdv, ct, osl, rfl, lk, hcd⟩ := F.ex
  obtain ⟨q1, q2, q3, q4, hb⟩ := T1.body
  have lS : (defScope st).names.lookup (PySem.Str.ofString "self") = some .local := by rw [T1.names]; rfl
  have lF : (defScope st).names.lookup f = some .local := by
    rw [T1.names]
    simp only [List.lookup, T1.ne]
    simp
  have bind : BindsTo s (PySem.W.fnOf "__init__" q (defArgs st) (defBody st) (defScope st) .none kV doc pm an cdv ct) args [(PySem.Str.ofString "self", .ref e), (f, v)] := by
    rcases hargs with rfl | rfl
    · exact BindsTo.of_eq (T1.b1 ..)
    · exact BindsTo.of_eq (T1.b2 ..)
  refine Att.call_fn X lim lk hcd room bind ?_ (fun s1 IC => ?_) T1.co T1.gen T1.kind
  · simp only [List.all_cons, List.all_nil, lS, lF]
    rfl
  · obtain ⟨h1, tk1, rfl⟩ := IC.toInCall.same
    have k : ∀ b o, s.heap.get? b = some o → h1.get? b = some o := IC.toInCall.keep
    have hn := IC.toInCall.ns
    have lt := Heap.lt_size he
    have mS : bindL (PyProof.Rows.envOfC q (defScope st) s.heap.objs.size fI cdv).kindOf (([PySem.Str.ofString "self", f] : List Str).zip [Value.ref e, v]) (fun _ => none) (PySem.Str.ofString "self") = some (.ref e) := by
      refine bindL_get (P := [PySem.Str.ofString "self", f]) (vs := [.ref e, v]) (i := 0) ?_ rfl rfl lS
      exact List.nodup_cons.mpr ⟨fun q => by
        have e2 : PySem.Str.ofString "self" = f := by simpa using q
        have := T1.ne
        rw [← e2] at this
        simp at this, List.nodup_cons.mpr ⟨by simp, List.nodup_nil⟩⟩
    have mF : bindL (PyProof.Rows.envOfC q (defScope st) s.heap.objs.size fI cdv).kindOf (([PySem.Str.ofString "self", f] : List Str).zip [Value.ref e, v]) (fun _ => none) f = some v := by
      refine bindL_get (P := [PySem.Str.ofString "self", f]) (vs := [.ref e, v]) (i := 1) ?_ rfl rfl lF
      exact List.nodup_cons.mpr ⟨fun q => by
        have e2 : PySem.Str.ofString "self" = f := by simpa using q
        have := T1.ne
        rw [← e2] at this
        simp at this, List.nodup_cons.mpr ⟨by simp, List.nodup_nil⟩⟩
    rw [hb]
    show wpAny _ _ (execs _ _) _ _ _
    refine wpAny_execs_cons (plainObj_wpAny_Assign_Attribute ?_)
    refine find_loc (P := fun _ => True) (nm := "__init__") hn mF (find_loc (P := fun _ => True) (nm := "__init__") hn mS ?_ T1.kind lS (by decide)) T1.kind lF T1.db
    refine PySem.W.set_plain (X.keeps k) (ox := bareE C t) (od := none) ⟨k _ _ he, rfl, rfl, trivial⟩ T.sa ?_
    refine store_bare T (s := { s with heap := h1, toks := tk1 + 1 }) (X.keeps k) (k _ _ he) fun h3 tk3 dx S => ?_
    show wpAny _ _ (execs _ _) _ _ _
    have z1 : s.heap.objs.size < h1.objs.size := hn.lt
    exact wpAny_execs_nil (z h3 tk3 dx ⟨fun b o hb2 e2 => S.keep b o hb2 (k b o e2), S.obj, Nat.le_of_lt (Nat.lt_of_lt_of_le z1 S.big), S.ne, S.ns⟩)
end
end Mine

set_option Elab.async false
set_option linter.all false
set_option maxRecDepth 100000
set_option maxHeartbeats 4000000
/-! Errors made as values (by position, by name, without anything), and raised. -/
namespace Mine
open PySem PySem.Spec L2
/-- a new error e with its dict dx: all that stood stands -/
structure MadeE (h h' : Heap) (e C t dx : Addr) (f : Str) (v : Value) : Prop where
  keep : ∀ b o, h.get? b = some o → h'.get? b = some o
  new : h.objs.size ≤ e
  obj : h'.get? e = some (fullE C t dx)
  big : h.objs.size ≤ dx
  ne : dx ≠ e
  ns : h'.Ns1 dx (fun y => if y = f then some v else none)
section
variable {prog : Program} {w : World} {A : Around} {E : Value → Shared → Prop} {R : Result → Shared → Prop} {K : PySem.W.Frag} {mg : Str → Option Value} {x f : Str} {C fI : Addr}
theorem call_err (T : ErrF K mg x f C fI) {v : Value} {us : List Value} {kw : List (Str × Value)} {s : Shared} (X : K.In s.heap) (lim : s.heap.NoLimit) (room : A.depth + 1 < recursionLimit) (ha : (us = [v] ∧ kw = []) ∨ (us = [] ∧ kw = [(f, v)]))
    (z : ∀ h' tk e t dx, MadeE s.heap h' e C t dx f v → R (.ok (.ret (.ref e))) { s with heap := h', toks := tk }) :
    codeAny (model prog w) A (.call (.ref C) ⟨us, kw⟩) R s := by
  obtain ⟨nm, N, qn, bs, bm, hdct, sn, sub, ab, col, dd, k0, k1, k2, k3, k5, hC, hT⟩ := PySem.W.excInit_of X T.new
  obtain ⟨hp, g, d, tk, os⟩ := s
  have hs : us.length ≤ sizeLine := by
    rw [sizeLine_eq]
    rcases ha with ⟨rfl, _⟩ | ⟨rfl, _⟩ <;> simp
  have k : ∀ b o, hp.get? b = some o → ((hp.push (PySem.W.kdv_tup us)).push (bareE C hp.objs.size)).get? b = some o := fun b o e => Heap.get?_push_of_some _ (Heap.get?_push_of_some _ e)
  have he : ((hp.push (PySem.W.kdv_tup us)).push (bareE C hp.objs.size)).get? (hp.objs.size + 1) = some (bareE C hp.objs.size) := by heap_get
  have Xh : K.In hp := X
  refine call_kw PySem.F.excBase_Exception hT hC hs (PySem.W.looks_findIn Xh T.ini) (fun self => PySem.W.bind_fn Xh self T.tI) ?_
  refine init_run T (v := v) (s := ⟨_, g, d, tk, os⟩) (Xh.keeps k) (PySem.Heap.NoLimit.keeps lim k) he ?_ ?_ fun h' tk' dx S => ?_
  · show A.depth + 1 < recursionLimit
    exact room
  · rcases ha with ⟨rfl, rfl⟩ | ⟨rfl, rfl⟩
    · exact .inl rfl
    · exact .inr rfl
  · have big : hp.objs.size + 1 + 1 ≤ dx := by
      have q := S.big
      simp only [Heap.size_push] at q
      exact q
    exact ⟨rfl, z h' tk' (hp.objs.size + 1) hp.objs.size dx ⟨fun b o e => S.keep b o (Nat.ne_of_lt (Nat.lt_succ_of_lt (Heap.lt_size e))) (k b o e), Nat.le_succ _, S.obj, Nat.le_trans (Nat.le_trans (Nat.le_succ _) (Nat.le_succ _)) big, S.ne, S.ns⟩⟩
end
section
variable {X : Cx} {x f : Str} {C fI : Addr} {e : Expr} {te : TE} {p pos kpos : Pos}
/-- the heap with the new error -/
def eUp (H : Hp) (a dx C : Addr) (f : Str) (v : V) : Hp := upd (upd H dx (exd dx [(f, v)])) a (exo a C (some dx))
theorem eUp_at {H : Hp} {a dx C : Addr} {f : Str} {v : V} (ne : dx ≠ a) : EAt (eUp H a dx C f v) a C (some (dx, [(f, v)])) := ⟨upd_same, by unfold eUp; rw [upd_ne ne, upd_same]⟩
theorem eUp_ne {H : Hp} {a dx C b : Addr} {f : Str} {v : V} (h1 : b ≠ a) (h2 : b ≠ dx) : eUp H a dx C f v b = H b := by unfold eUp; rw [upd_ne h1, upd_ne h2]
def tErr (C : Addr) (f : Str) (ta : TA) : TE := fun σ H Q => ta σ H fun vs H1 => ∃ v, vs = [v] ∧ ∀ a dx, H1 a = none → H1 dx = none → dx ≠ a → Q (.ref a) (eUp H1 a dx C f v)
theorem err_back {pins : List (Addr × Obj)} {σ : L2.St} {H1 : Hp} {s1 : Shared} {v : V} {u : Value} {Q : VK} (T : ErrF X.K X.mg x f C fI) (I1 : L2.Inv X pins σ H1 s1) (rv : L2.RelV v u) (q : ∀ a dx, H1 a = none → H1 dx = none → dx ≠ a → Q (.ref a) (eUp H1 a dx C f v))
    (room : X.A.depth + 1 < recursionLimit) {us : List Value} {kw : List (Str × Value)} (ha : (us = [u] ∧ kw = []) ∨ (us = [] ∧ kw = [(f, u)])) : wpAny (model X.prog X.w) X.A (call (.ref C) us kw) (L2.EP X pins σ Q) X.xe s1 := by
  refine wpAny_call (call_err T I1.kIn I1.nolimit room ha fun h' tk a t dx M => ?_)
  refine ⟨.ref a, eUp H1 a dx C f v, inv_two (o := exo a C (some dx)) (u := exd dx [(f, v)]) I1 M.keep M.new M.big M.ne (exo_ok M.obj) (exd_ok M.ns ?_), rfl, q a dx (I1.hok.fresh M.new) (I1.hok.fresh M.big) M.ne⟩
  exact relO_put (fs := []) rv fun g => True.intro
theorem pe_err {ta : TA} (T : ErrF X.K X.mg x f C fI) (room : X.A.depth + 1 < recursionLimit) (ha : PA X [e] ta) (hg : Gl X x) (hdb : (x == (PySem.Str.ofString "__debug__")) = false := by decide)
    (hs : starEach [e] X.env = (false, eval e X.env) :: starEach [] X.env := by rfl) (hpl : (backTo pos (starEach [] X.env)).any (·.1) = false := by rfl) : PE X (.Call (.Name x p) [e] [] pos) (tErr C f ta) := by
  refine ⟨fun pins s σ H Q I h => ?_⟩
  refine wpAny_Call_Name_kw (ld_glob I hg T.g ?_ hdb)
  refine PySem.W.callWith_K (h₀ := X.base) I.ok.mod.kin T.kp (thn (ha.run pos pins s σ H _ I h) fun us s1 hh => ?_) hs hpl
  obtain ⟨vs, H1, I1, r1, v, ev, q⟩ := hh
  subst ev
  refine ⟨I1.kIn, ?_⟩
  cases r1 with
  | cons rv rn =>
    cases rn
    exact err_back T I1 rv q room (.inl ⟨rfl, rfl⟩)
theorem pe_errK {ta : TA} (T : ErrF X.K X.mg x f C fI) (room : X.A.depth + 1 < recursionLimit) (ha : PK X [⟨some f, e, kpos⟩] ta) (hg : Gl X x) (hdb : (x == (PySem.Str.ofString "__debug__")) = false := by decide)
    (hall : (backToKw pos (keywordEach [⟨some f, e, kpos⟩] X.env)).all (·.1.isSome) = true := by rfl) (hks : (backToKw pos (keywordEach [⟨some f, e, kpos⟩] X.env)).filterMap (·.1) = [f] := by rfl)
    (hpl : ((backTo pos (starEach [] X.env)).any (·.1) || (backToKw pos (keywordEach [⟨some f, e, kpos⟩] X.env)).any (·.1.isNone)) = false := by rfl) : PE X (.Call (.Name x p) [] [⟨some f, e, kpos⟩] pos) (tErr C f ta) := by
  refine ⟨fun pins s σ H Q I h => ?_⟩
  refine wpAny_Call_Name_kw (ld_glob I hg T.g ?_ hdb)
  refine PySem.W.callWith_KW0 (h₀ := X.base) I.ok.mod.kin T.kp hall (thn (ha.run pos pins s σ H _ I h) fun us s1 hh => ?_) hpl
  obtain ⟨vs, H1, I1, r1, v, ev, q⟩ := hh
  subst ev
  refine ⟨I1.kIn, ?_⟩
  cases r1 with
  | cons rv rn =>
    cases rn
    rw [hks]
    exact err_back T I1 rv q room (.inr ⟨rfl, rfl⟩)
/-- C(), a class without an __init__ of its own -/
def tErr0 (C : Addr) : TE := fun σ H Q => ∀ a, H a = none → Q (.ref a) (upd H a (exo a C none))
theorem pe_err0 (T : ErrN X.K X.mg x C) (hg : Gl X x) (hdb : (x == (PySem.Str.ofString "__debug__")) = false := by decide) : PE X (.Call (.Name x p) [] [] pos) (tErr0 C) := by
  refine ⟨fun pins s σ H Q I h => ?_⟩
  refine wpAny_Call_Name_kw (ld_glob I hg T.g ?_ hdb)
  refine PySem.W.callWith_K0 I.kIn T.kp ?_
  show wpAny _ _ (call (.ref C) []) _ _ _
  obtain ⟨bm, N, nm, qn, bs, hdct, sn, sub, ab, col, dd, k0, k1, k2, k3, k5, mN, hC, hN, hni, O⟩ := exc_obj I.kIn T.new
  refine wpAny_call_exc_subT PySem.F.excBase_Exception O hC hN hni (fun h' a M => ?_) (by show 0 ≤ sizeLine; exact Nat.zero_le _)
  have hn : H a = none := I.hok.gone M.new
  obtain ⟨t, ht, _, _⟩ := M.there
  exact ⟨.ref a, upd H a (exo a C none), I.laidN M.keeps M.new hn (exo_ok ht), rfl, h a hn⟩
/-! raised: nothing of the error is told but its class -/
def tRais (C : Addr) (ta : TA) : L2.St → Hp → L2.XK → Prop := fun σ H Q => ta σ H fun vs H1 => ∃ v, vs = [v] ∧ ∀ d, Q (.ref C) (some d) H1
theorem pm_err {ta : TA} (T : ErrF X.K X.mg x f C fI) (room : X.A.depth + 1 < recursionLimit) (ha : PA X [e] ta) (hg : Gl X x) (hdb : (x == (PySem.Str.ofString "__debug__")) = false := by decide)
    (hs : starEach [e] X.env = (false, eval e X.env) :: starEach [] X.env := by rfl) (hpl : (backTo pos (starEach [] X.env)).any (·.1) = false := by rfl) : L2.PMk X (.Call (.Name x p) [e] [] pos) (tRais C ta) := by
  intro pins s σ H Q I h
  refine wpAny_Call_Name_kw (ld_glob I hg T.g ?_ hdb)
  refine PySem.W.callWith_K (h₀ := X.base) I.ok.mod.kin T.kp (thn (ha.run pos pins s σ H _ I h) fun us s1 hh => ?_) hs hpl
  obtain ⟨vs, H1, I1, r1, v, ev, q⟩ := hh
  subst ev
  refine ⟨I1.kIn, ?_⟩
  cases r1 with
  | cons rv rn =>
    cases rn
    refine wpAny_call (call_err T I1.kIn I1.nolimit room (.inl ⟨rfl, rfl⟩) fun h' tk a t dx M => ?_)
    have na : s1.heap.get? a = none := by
      cases z : s1.heap.get? a with
      | none => rfl
      | some o => exact absurd (Nat.lt_of_lt_of_le (Heap.lt_size z) M.new) (Nat.lt_irrefl _)
    exact ⟨a, _, _, s1, H1, .ref C, some dx, rfl, I1, M.keep, na, M.obj, ⟨rfl, rfl⟩, rfl, rfl, I1.hok.fresh M.new, rfl, I1.bare, L2.raises_own T.su T.ty, q dx⟩
theorem pm_err0 (T : ErrN X.K X.mg x C) (hg : Gl X x) (hdb : (x == (PySem.Str.ofString "__debug__")) = false := by decide) : L2.PMk X (.Call (.Name x p) [] [] pos) (fun _ H Q => Q (.ref C) none H) := by
  intro pins s σ H Q I h
  refine wpAny_Call_Name_kw (ld_glob I hg T.g ?_ hdb)
  refine PySem.W.callWith_K0 I.kIn T.kp ?_
  show wpAny _ _ (call (.ref C) []) _ _ _
  obtain ⟨bm, N, nm, qn, bs, hdct, sn, sub, ab, col, dd, k0, k1, k2, k3, k5, mN, hC, hN, hni, O⟩ := exc_obj I.kIn T.new
  refine wpAny_call_exc_subT PySem.F.excBase_Exception O hC hN hni (fun h' a M => ?_) (by show 0 ≤ sizeLine; exact Nat.zero_le _)
  exact L2.mk_of I M (L2.raises_own T.su T.ty) h (I.hok.gone M.new)
end
end Mine

set_option Elab.async false
set_option linter.all false
set_option maxRecDepth 100000
set_option maxHeartbeats 4000000
/-! Data of lists, tuples and small dicts as the abstract heap holds it, and its text. -/
namespace Mine
open PySem PySem.Spec L2
mutual
inductive DK (H : Hp) : V → PyData → Prop
  | non : DK H .non .none
  | bl (b : Bool) : DK H (.bl b) (.bool b)
  | int (i : Int) : DK H (.int i) (.int i)
  | str (x : Str) : DK H (.str x) (.str x)
  | lst {a : Addr} {xs : List V} {ds : List PyData} : H a = some (.lst xs) → DKs H xs ds → DK H (.ref a) (.list ds)
  | tup {a : Addr} {xs : List V} {ds : List PyData} : H a = some (.tup xs) → DKs H xs ds → DK H (.ref a) (.tuple ds)
  | dct0 {a : Addr} : H a = some (.dK []) → DK H (.ref a) (.dict [])
  | dct1 {a : Addr} {k : Str} {v : V} {d : PyData} : H a = some (.dK [(Sum.inr k, v)]) → DK H v d → DK H (.ref a) (.dict [(.str k, d)])
inductive DKs (H : Hp) : List V → List PyData → Prop
  | nil : DKs H [] []
  | cons {v : V} {vs : List V} {d : PyData} {ds : List PyData} : DK H v d → DKs H vs ds → DKs H (v :: vs) (d :: ds)
end
mutual
theorem DK.keeps {H H' : Hp} (k : ∀ b o, H b = some o → H' b = some o) : ∀ (d : PyData) (v : V), DK H v d → DK H' v d
  | .none, _, h => by cases h; exact .non
  | .bool b, _, h => by cases h; exact .bl b
  | .int i, _, h => by cases h; exact .int i
  | .str x, _, h => by cases h; exact .str x
  | .list ds, _, h => by
    cases h with
    | lst e r => exact .lst (k _ _ e) (DKs.keeps k ds _ r)
  | .tuple ds, _, h => by
    cases h with
    | tup e r => exact .tup (k _ _ e) (DKs.keeps k ds _ r)
  | .dict [], _, h => by
    cases h with
    | dct0 e => exact .dct0 (k _ _ e)
  | .dict [(kk, d)], _, h => by
    cases h with
    | dct1 e r => exact .dct1 (k _ _ e) (DK.keeps k d _ r)
  | .dict (_ :: _ :: _), _, h => by cases h
theorem DKs.keeps {H H' : Hp} (k : ∀ b o, H b = some o → H' b = some o) : ∀ (ds : List PyData) (vs : List V), DKs H vs ds → DKs H' vs ds
  | [], _, h => by cases h; exact .nil
  | d :: ds, _, h => by
    cases h with
    | cons h1 h2 => exact .cons (DK.keeps k d _ h1) (DKs.keeps k ds _ h2)
end
theorem DKs.len {H : Hp} : ∀ {vs : List V} {ds : List PyData}, DKs H vs ds → vs.length = ds.length
  | _, _, .nil => rfl
  | _, _, .cons _ r => by rw [List.length_cons, List.length_cons, r.len]
theorem DKs.snoc {H : Hp} {v : V} {d : PyData} (h : DK H v d) : ∀ {vs : List V} {ds : List PyData}, DKs H vs ds → DKs H (vs ++ [v]) (ds ++ [d])
  | _, _, .nil => .cons h .nil
  | _, _, .cons a r => .cons a (r.snoc h)

/-- what is asked of data that is shown: numbers of moderate size, a text of at most n signs, at most l deep -/
structure Shows (n l : Nat) (d : PyData) : Prop where
  ok : d.showable = true
  len : d.shown.length ≤ n
  dep : d.depth ≤ l

section
variable {prog : Program} {w : World} {X : Cx} {pins : List (Addr × Obj)} {σ : L2.St} {H : Hp} {s : Shared}
/-- reading, and the text under way -/
def Rk (prog : Program) (w : World) (h : Heap) (u : Value) (d : PyData) : Prop := (∃ as, Reads h u d as) ∧ ∃ bs, ReadAtMost h d.depth bs ∧ ReprK prog w bs h d.depth u d.shown
def Rks (prog : Program) (w : World) (h : Heap) (us : List Value) (ds : List PyData) : Prop := (∃ as, ReadsAll h us ds as) ∧ ∃ bs, ReadAtMost h (PyData.depthAll ds) bs ∧ ReprAllK prog w bs h (PyData.depthAll ds) us (PyData.shownAll ds)
theorem Rk.leaf {h : Heap} {u : Value} {d : PyData} {as : List Addr} (r : Reads h u d as) (i : ReprIs prog w u d.shown) : Rk prog w h u d := ⟨⟨_, r⟩, [], (fun _ z => nomatch z), .of_is i _ _ _⟩
theorem Rks.cons {h : Heap} {u : Value} {us : List Value} {d : PyData} {ds : List PyData} (a : Rk prog w h u d) (b : Rks prog w h us ds) : Rks prog w h (u :: us) (d :: ds) := by
  obtain ⟨⟨as, r1⟩, b1, m1, k1⟩ := a
  obtain ⟨⟨cs, r2⟩, b2, m2, k2⟩ := b
  refine ⟨⟨_, .cons r1 r2⟩, b1 ++ b2, ?_, ?_⟩
  · simp only [PyData.depthAll]
    exact (m1.mono (Nat.le_max_left _ _)).append (m2.mono (Nat.le_max_right _ _))
  · simp only [PyData.depthAll, PyData.shownAll]
    exact .cons ((k1.more fun _ z => List.mem_append_left _ z).level_le (Nat.le_max_left _ _)) (k2.more_le (fun _ z => List.mem_append_right _ z) (Nat.le_max_right _ _))
theorem Rk.list {h : Heap} {a : Addr} {o : Obj} {us : List Value} {n : Nat} {ds : List PyData} (h1 : h.get? a = some o) (h2 : o.cls = .type "list") (h3 : o.data = .seq us.toArray n) (r : Rks prog w h us ds) : Rk prog w h (.ref a) (.list ds) := by
  obtain ⟨⟨as, r⟩, bs, m, k⟩ := r
  have rd : Reads h (.ref a) (.list ds) (a :: as) := .list h1 h2 h3 r
  have out : a ∉ bs := not_mem_of_deeper rd (by simp only [PyData.depth]; omega) m
  refine ⟨⟨_, rd⟩, a :: bs, ReadAtMost.cons rd (by simp only [PyData.depth]; omega) m, ?_⟩
  simp only [PyData.depth, PyData.shown]
  cases us with
  | nil =>
    cases r
    simp only [PyData.shownAll, listText_nil]
    exact ReprK.listEmpty h1 h2 h3
  | cons x l => exact ReprK.list h1 h2 h3 out (by simpa using k.length_eq) fun i y e => k.item i y (by simpa using e)
theorem Rk.tuple {h : Heap} {a : Addr} {o : Obj} {us : List Value} {n : Nat} {ds : List PyData} (h1 : h.get? a = some o) (h2 : o.cls = .type "tuple") (h3 : o.data = .seq us.toArray n) (r : Rks prog w h us ds) : Rk prog w h (.ref a) (.tuple ds) := by
  obtain ⟨⟨as, r⟩, bs, m, k⟩ := r
  have rd : Reads h (.ref a) (.tuple ds) as := .tuple h1 h2 h3 r
  have out : a ∉ bs := not_mem_of_deeper rd (by simp only [PyData.depth]; omega) m
  refine ⟨⟨_, rd⟩, a :: bs, ReadAtMost.cons rd (by simp only [PyData.depth]; omega) m, ?_⟩
  simp only [PyData.depth, PyData.shown]
  exact ReprK.tuple h1 h2 h3 out k
theorem Rk.dict {h : Heap} {a : Addr} {o : Obj} {es : Array DictEntry} {n : Nat} {kvs : List (PyData × PyData)} (h1 : h.get? a = some o) (h2 : o.cls = .type "dict") (h3 : o.data = .dict es n) (h4 : (a == sysModules) = false)
    (rk : Rks prog w h (es.toList.map (·.key)) (kvs.map (·.1))) (rv : Rks prog w h (es.toList.map (·.val)) (kvs.map (·.2))) : Rk prog w h (.ref a) (.dict kvs) := by
  obtain ⟨⟨as, r1⟩, b1, m1, k1⟩ := rk
  obtain ⟨⟨cs, r2⟩, b2, m2, k2⟩ := rv
  have rd : Reads h (.ref a) (.dict kvs) _ := .dict h1 h2 h3 r1 r2
  have m : ReadAtMost h (PyData.depthKv kvs) (b1 ++ b2) := (m1.mono (PyData.depthAll_keys_le kvs)).append (m2.mono (PyData.depthAll_vals_le kvs))
  have out : a ∉ b1 ++ b2 := not_mem_of_deeper rd (by simp only [PyData.depth]; omega) m
  refine ⟨⟨_, rd⟩, a :: (b1 ++ b2), ReadAtMost.cons rd (by simp only [PyData.depth]; omega) m, ?_⟩
  simp only [PyData.depth, PyData.shown, PyData.shownKv_eq]
  exact ReprK.dict h1 h2 h3 h4 out (ReprEntriesK.of_two es.toList _ _ (k1.more_le (fun _ z => List.mem_append_left _ z) (PyData.depthAll_keys_le kvs)) (k2.more_le (fun _ z => List.mem_append_right _ z) (PyData.depthAll_vals_le kvs)))
mutual
theorem DK.rk (I : L2.Inv X pins σ H s) : ∀ (d : PyData) (v : V) (u : Value), DK H v d → L2.RelV v u → d.showable = true → d.shown.length ≤ sizeLine → Rk X.prog X.w s.heap u d
  | .none, _, _, h, r, _, _ => by
    cases h; cases r
    exact Rk.leaf .none (by simp only [PyData.shown]; exact ReprIs.none)
  | .bool b, _, _, h, r, _, _ => by
    cases h; cases r
    exact Rk.leaf (.bool b) (by simp only [PyData.shown]; exact ReprIs.bool b)
  | .int i, _, _, h, r, ok, _ => by
    cases h
    obtain ⟨t, rfl⟩ := r
    exact Rk.leaf (.int i t) (by simp only [PyData.shown]; exact ReprIs.int t (by simpa [PyData.showable] using ok))
  | .str x, _, _, h, r, _, hz => by
    cases h
    obtain ⟨t, rfl⟩ := r
    exact Rk.leaf (.str x t) (by simp only [PyData.shown]; exact ReprIs.str x t (by simpa only [PyData.shown] using hz))
  | .list ds, _, _, h, r, ok, hz => by
    cases h with
    | lst e r' =>
      cases r
      obtain ⟨_, its, n, rv, he⟩ := (show ObjOk X.prog X.w H s.heap _ (.lst _) from I.hok _ _ e)
      have hz' : (listText (PyData.shownAll ds)).length ≤ sizeLine := by simpa only [PyData.shown] using hz
      exact Rk.list he rfl rfl (DKs.rks I ds _ its r' rv (by simpa [PyData.showable] using ok) fun t ht => Nat.le_trans (listText_mem_le ht) hz')
  | .tuple ds, _, _, h, r, ok, hz => by
    cases h with
    | tup e r' =>
      cases r
      obtain ⟨_, its, rv, o, he, hc, n, hd⟩ := (show ObjOk X.prog X.w H s.heap _ (.tup _) from I.hok _ _ e)
      have hz' : (tupleText (PyData.shownAll ds)).length ≤ sizeLine := by simpa only [PyData.shown] using hz
      exact Rk.tuple he hc hd (DKs.rks I ds _ its r' rv (by simpa [PyData.showable] using ok) fun t ht => Nat.le_trans (tupleText_mem_le ht) hz')
  | .dict [], _, _, h, r, _, _ => by
    cases h with
    | dct0 e =>
      cases r
      obtain ⟨_, hs, vs, rel, o, es, ep, he, hx, hd, _, hp, _⟩ := (show ObjOk X.prog X.w H s.heap _ (.dK _) from I.hok _ _ e)
      cases rel
      have e0 : es.toList = [] := by
        cases q : es.toList with
        | nil => rfl
        | cons a b => rw [q] at hp; cases hp
      refine Rk.dict he hx.1 hd hs ?_ ?_
      all_goals
        rw [e0]
        exact ⟨⟨_, .nil⟩, [], (fun _ z => nomatch z), .nil⟩
  | .dict [(kk, d)], _, _, h, r, ok, hz => by
    cases h with
    | @dct1 a k v d e r' =>
      cases r
      obtain ⟨_, hs, vs, rel, o, es, ep, he, hx, hd, _, hp, _⟩ := (show ObjOk X.prog X.w H s.heap _ (.dK _) from I.hok _ _ e)
      have hz' : (dictText (PyData.shownKv [(.str k, d)])).length ≤ sizeLine := by simpa only [PyData.shown] using hz
      have ok' : PyData.showable (.str k) = true ∧ d.showable = true := by simpa [PyData.showable, PyData.showableKv] using ok
      have one : ∀ t ∈ PyData.shownKv [(.str k, d)], t.length ≤ sizeLine := fun t ht => Nat.le_trans (dictText_mem_le ht) hz'
      cases rel with
      | @cons p q _ _ pq rest =>
        cases rest
        obtain ⟨qk, qv⟩ := q
        obtain ⟨e1, rv⟩ := pq
        dsimp only at e1 rv
        subst e1
        obtain ⟨en, e0, ek, ev⟩ : ∃ en, es.toList = [en] ∧ keyIs (Sum.inr k) en.key = true ∧ en.val = qv := by
          cases q : es.toList with
          | nil => rw [q] at hp; cases hp
          | cons a b =>
            rw [q] at hp
            cases hp with
            | cons h1 h2 h3 =>
              cases h3
              exact ⟨a, rfl, h1, h2⟩
        obtain ⟨t, ek'⟩ := Value.isStrOf_shape (x := k) (v := en.key) ek
        have z1 : (PyData.shown (.str k)).length ≤ sizeLine := by
          obtain ⟨p, hp, hl⟩ := PyData.shownKv_key_le [(.str k, d)] (PyData.shown (.str k)) (by simp only [List.map_cons, PyData.shownAll]; exact List.mem_cons_self ..)
          exact Nat.le_trans hl (one p hp)
        have z2 : d.shown.length ≤ sizeLine := by
          obtain ⟨p, hp, hl⟩ := PyData.shownKv_val_le [(.str k, d)] d.shown (by simp only [List.map_cons, PyData.shownAll]; exact List.mem_cons_self ..)
          exact Nat.le_trans hl (one p hp)
        refine Rk.dict he hx.1 hd hs ?_ ?_
        · rw [e0]
          show Rks _ _ _ [en.key] [PyData.str k]
          rw [ek']
          exact Rks.cons (Rk.leaf (.str k t) (by simp only [PyData.shown]; exact ReprIs.str k t (by simpa only [PyData.shown] using z1))) ⟨⟨_, .nil⟩, [], (fun _ z => nomatch z), .nil⟩
        · rw [e0]
          show Rks _ _ _ [en.val] [d]
          rw [ev]
          exact Rks.cons (DK.rk I d v qv r' rv ok'.2 z2) ⟨⟨_, .nil⟩, [], (fun _ z => nomatch z), .nil⟩
  | .dict (_ :: _ :: _), _, _, h, _, _, _ => by cases h
theorem DKs.rks (I : L2.Inv X pins σ H s) : ∀ (ds : List PyData) (vs : List V) (us : List Value), DKs H vs ds → L2.Vals vs us → PyData.showableAll ds = true → (∀ t ∈ PyData.shownAll ds, t.length ≤ sizeLine) → Rks X.prog X.w s.heap us ds
  | [], _, _, h, r, _, _ => by
    cases h; cases r
    exact ⟨⟨_, .nil⟩, [], (fun _ z => nomatch z), .nil⟩
  | d :: ds, _, _, h, r, ok, hz => by
    have ok' : d.showable = true ∧ PyData.showableAll ds = true := by simpa [PyData.showableAll] using ok
    cases h with
    | cons h1 h2 =>
      cases r with
      | cons r1 r2 =>
        exact Rks.cons (DK.rk I d _ _ h1 r1 ok'.1 (hz _ (by simp only [PyData.shownAll]; exact List.mem_cons_self ..))) (DKs.rks I ds _ _ h2 r2 ok'.2 fun t ht => hz t (by simp only [PyData.shownAll]; exact List.mem_cons_of_mem _ ht))
end
end
/-- repr of a list -/
def rRepr : List V → Hp → VK → Prop := fun xs H Q => ∃ (a : Addr) (ds : List PyData), xs = [.ref a] ∧ DK H (.ref a) (.list ds) ∧ Shows sizeLine 20 (.list ds) ∧ Q (.str (PyData.shown (.list ds))) H
theorem call_reprD {X : Cx} (hg : X.A.guards = some []) (hu : X.A.units + 40 < cLine) : CallR X (.builtin "repr") rRepr := by
  intro pins s σ H xs us Q I r h
  obtain ⟨a, ds, rfl, hd, S, q⟩ := h
  obtain ⟨u, rfl, rv⟩ := vals1 r
  cases (show u = Value.ref a from rv)
  have rk : Rk X.prog X.w s.heap (.ref a) (.list ds) := DK.rk I (.list ds) (.ref a) (.ref a) hd rfl S.ok S.len
  cases hd with
  | lst e r' =>
    obtain ⟨_, its, n, rvs, he⟩ := (show ObjOk X.prog X.w H s.heap _ (.lst _) from I.hok _ _ e)
    have hz' : (listText (PyData.shownAll ds)).length ≤ sizeLine := by simpa only [PyData.shown] using S.len
    have rks := DKs.rks I ds _ its r' rvs (by simpa [PyData.showable] using S.ok) fun t ht => Nat.le_trans (listText_mem_le ht) hz'
    obtain ⟨⟨as, ra⟩, bs, m, k⟩ := rks
    have rd : Reads s.heap (.ref a) (.list ds) (a :: as) := .list he rfl rfl ra
    have out : a ∉ bs := not_mem_of_deeper rd (by simp only [PyData.depth]; omega) m
    have dep : PyData.depthAll ds + 1 ≤ 20 := by simpa only [PyData.depth] using S.dep
    have fin : ∀ h' u tk, (∀ b o, s.heap.get? b = some o → h'.get? b = some o) → L2.EP X pins σ Q (.str (PyData.shown (.list ds)) u) { s with heap := h', toks := tk } := fun h' u tk kp => ⟨.str _, H, I.kept kp, ⟨_, rfl⟩, q⟩
    refine call_repr_slot (by omega) ⟨_, he, rfl⟩ PySem.F.slot_list_repr.toG ?_
    cases its with
    | nil =>
      cases ra
      refine call_list_repr_empty ⟨_, he, rfl⟩ he rfl ⟨_, _, rfl, ?_⟩
      have e0 : PyData.shown (.list []) = ("[]" : Str) := by simp only [PyData.shown, PyData.shownAll, listText_nil]
      rw [← e0]
      exact fin _ _ _ fun _ _ z => z
    | cons x l =>
      refine call_list_reprK he rfl rfl out (by simpa using k.length_eq) (fun i y e => k.item i y (by simpa using e)) (A := X.A.in1) hg (fun b _ => Clear.nil b) (by show X.A.units + 1 + _ < _; omega) (fun _ _ z => z) (fun h' u tk kp => ⟨_, _, rfl, ?_⟩) hz'
      have e0 : PyData.shown (.list ds) = listText (PyData.shownAll ds) := by simp only [PyData.shown]
      rw [← e0]
      exact fin h' u tk kp
end Mine

set_option Elab.async false
set_option linter.all false
set_option maxRecDepth 100000
set_option maxHeartbeats 4000000
/-! Promises of defs that are called where nothing is being shown (no repr runs): so that they may show data themselves. -/
namespace Mine
open PySem PySem.Spec L2
/-- a def's promise, kept wherever no repr is under way -/
structure FnG (P : Program) (w : World) (K : PySem.W.Frag) (mg : Str → Option Value) (base : Heap) (k : Nat) (f : Addr) (fd : FuncData) (ps : List Str) (sp : L2.Sp) : Prop where
  len : ∀ vs H Q E, sp vs H Q E → vs.length = ps.length
  run : ∀ (A : Around) (outer : List Env) (s : Shared) (H : Hp) (args : Args) (us : List Value) (vs : List V) (Q : L2.VK) (E : L2.XK), L2.Room k A → A.guards = some [] → L2.Env0 P w K mg base A outer s H → BindsTo s fd args (ps.zip us) → L2.Vals vs us → sp vs H Q E →
    codeAny (model P w) A (.call (.ref f) args) (L2.CR L2.CX0 outer P w H s Q E) s
theorem fnG_of {P : Program} {w : World} {K : PySem.W.Frag} {mg : Str → Option Value} {base : Heap} {k : Nat} {x qual : Str} {st : Stmt} {f : Addr} {fd : FuncData} {N ps : List Str} {sp : L2.Sp} (F : Fun K x qual st f fd) (S : FnScope N ps (defScope st))
    (len : ∀ vs H Q E, sp vs H Q E → vs.length = ps.length)
    (body : ∀ (cdv : Value) (A : Around) (outer : List Env) (s : Shared) (H : Hp) (vs : List V) (Q : L2.VK) (E : L2.XK), L2.Room k (A.deeper (PyProof.Rows.envOfC qual (defScope st) s.heap.objs.size f cdv)) → (A.deeper (PyProof.Rows.envOfC qual (defScope st) s.heap.objs.size f cdv)).guards = some [] → sp vs H Q E →
      ∃ t, PSs (cxOf CX0 P w K mg base N qual (defScope st) f cdv A outer s H E).nox (defBody st) t ∧ t { nx := fun _ H' => Q .non H', rt := Q } (start N vs) H) : FnG P w K mg base (k + 1) f fd ps sp := by
  obtain ⟨oc, od, kV, doc, pm, an, cdv, ct, osl, rfl, lk, hcd⟩ := F.ex
  refine ⟨len, fun A outer s H args us vs Q E hr hg e0 hb r q => ?_⟩
  have inS : ∀ b o, base.get? b = some o → s.heap.get? b = some o := fun b o z => (e0.bs b o z).1
  have hl := len _ _ _ _ q
  have kinds : ∀ y ∈ ps.zip us, (defScope st).names.lookup y.1 = some .local ∨ ((defScope st).names.lookup y.1 = some .cell ∧ ((cellsFrom (s.heap.objs.size + 1) (defScope st).names []).lookup y.1).isSome = true) := by
    intro y hy
    obtain ⟨n, v⟩ := y
    rcases S.par n (List.of_mem_zip hy).1 with z | z
    · exact .inl z
    · exact .inr ⟨z, PySem.W.cellsFrom_some _ _ _ (.inl z)⟩
  have KX := e0.mod.kin.keeps inS
  refine codeAny_call_function hr.depth (KX _ _ lk) rfl S.co S.gen rfl (PySem.W.codeRec_of KX hcd) (hb _ _ _ _ ?_)
  refine wpAny_newFunctionEnv_cells S.kind kinds fun env he s1 x => ?_
  subst he
  refine ⟨(e0.mod.nolimit.keeps inS).keeps x.toInCall.keep, codeAny_func ?_⟩
  obtain ⟨t, ht, hq⟩ := body cdv A outer s H vs Q E (hr.deeper _) hg q
  have I := inv_start (CX := CX0) (E := E) S hr.hd e0 hl r x
  refine wpAny_mono (ht.nox.run [] s1 (start N vs) H _ I hq) (fun fl s' hs => ?_) fun _ _ z => z
  have done : ∀ {σ' : L2.St} {H' : Hp} {v : V} {u : Value}, L2.Inv (cxOf CX0 P w K mg base N qual (defScope st) f cdv A outer s H E) [] σ' H' s' → L2.RelV v u → Q v H' → L2.CE outer P w H s Q u s' :=
    fun J rv z => ⟨_, _, J.os, J.bare, J.base, J.hok, rv, z⟩
  cases fl with
  | ret u =>
    obtain ⟨v, σ', H', J, rv, z⟩ := hs
    exact done J rv z
  | next =>
    obtain ⟨σ', H', J, z⟩ := hs
    exact done (v := V.non) (u := Value.none) J rfl z
  | brk =>
    obtain ⟨_, _, _, z⟩ := hs
    exact False.elim z
  | cont =>
    obtain ⟨_, _, _, z⟩ := hs
    exact False.elim z
section
variable {X : Cx} {k : Nat} {f : Addr} {fd : FuncData} {ps : List Str} {sp : L2.Sp} {x : Str} {p pos : Pos} {e : Expr} {es : List Expr} {t : L2.TA}
/-- such a def called -/
def tCallG (sp : L2.Sp) (t : L2.TA) : L2.TE := fun σ H Q => t σ H fun vs H1 => sp vs H1 Q fun _ _ _ => False
theorem pe_callG (F : FnG X.prog X.w X.K X.mg X.base k f fd ps sp) (hr : L2.Room k X.A) (hgd : X.A.guards = some []) (hg : Gl X x) (hm : X.mg x = some (.ref f)) (hk : PySem.W.keepIn X.K (.ref f) = true) (hb : L2.Binds X.K fd ps [])
    (ha : L2.PA X (e :: es) t) (hdb : (x == (PySem.Str.ofString "__debug__")) = false := by decide) (he : starEach (e :: es) X.env = (false, eval e X.env) :: starEach es X.env := by rfl) (hpl : (backTo pos (starEach es X.env)).any (·.1) = false := by rfl) :
    L2.PE X (.Call (.Name x p) (e :: es) [] pos) (tCallG sp t) := by
  refine ⟨fun pins s σ H Q I h => ?_⟩
  refine wpAny_Call_Name_kw (ld_glob I hg hm ?_ hdb)
  refine PySem.W.callWith_K (h₀ := X.base) I.ok.mod.kin hk (thn (ha.run pos pins s σ H _ I h) fun us s1 ⟨vs, H1, I1, r, q⟩ => ⟨I1.kIn, ?_⟩) he hpl
  have hl : us.length = ps.length := by
    rw [← r.length]
    exact F.len _ _ _ _ q
  have b := hb s1 us I1.kIn (by rw [List.append_nil]; exact hl)
  rw [List.append_nil] at b
  refine wpAny_call (codeAny_mono (F.run X.A X.stack s1 H1 ⟨us, []⟩ us vs Q _ hr hgd I1.env0 b r q) fun r s' hq => ?_)
  cases r with
  | error e => exact pass0 pins σ H1 s1 e s' I1 hq
  | ok fl =>
    cases fl with
    | ret u => exact I1.after hq
    | next => exact False.elim hq
    | brk => exact False.elim hq
    | cont => exact False.elim hq
end
end Mine
namespace Mine
open PySem PySem.Spec PyProof.Rows L2
/-! the law's own end -/
section
variable {P : Program} {w : World} {K : PySem.W.Frag} {mg mb : Str → Option Value} {k : Nat} {fa a : Addr} {fd : FuncData} {x : Str} {sp : L2.Sp} {s₁ : Shared} {vs : List Value} {ns : List Int}
/-- what is asked of the law's call -/
def LawEnd (P : Program) (w : World) (fa a : Addr) (s₁ : Shared) : Prop :=
  codeAny (model P w) callerA (.call (.ref fa) ⟨[.ref a], []⟩) (fun r s' => r = .ok (.ret (.bool true)) ∧ OldK s₁.heap s'.heap ∧ s'.os = s₁.os ∧ AllBare s'.gens) s₁
theorem end_from (KX : K.In s₁.heap) (hns : s₁.heap.Ns mainGlobals mg) (hb : s₁.heap.Ns builtinsNs mb) (hbb : ∀ x : Str, x ≠ "__name__" → mb x = bootBuiltins x) (hlim : s₁.heap.NoLimit) (hg : s₁.gens = #[])
    (ha : s₁.heap.get? a = some { cls := .type "list", data := .seq vs.toArray }) (hr : L2.Room k callerA)
    (F : ∀ base : Heap, K.In base → base.Ns mainGlobals mg → FnG P w K mg base k fa fd [x] sp) (hbind : ∀ (s : Shared) (u : Value), BindsTo s fd ⟨[u], []⟩ [(x, u)])
    (H : Hp) (hO : L2.Only H) (ok : L2.HOk P w H s₁.heap) (at_ : ∀ b, H b ≠ none → b = a) (notK : H a ≠ none → K.lookup a = none) (hsp : sp [.ref a] H (fun v _ => v = .bl true) fun _ _ _ => False) : LawEnd P w fa a s₁ := by
  have free : ∀ {b : Addr} {o : Obj} {es : Array DictEntry} {ep : Nat}, s₁.heap.get? b = some o → o.data = .dict es ep → H b = none := by
    intro b o es ep e d
    cases q : H b with
    | none => rfl
    | some u =>
      have z : b = a := at_ b (by rw [q]; exact fun y => nomatch y)
      subst z
      rw [ha] at e
      cases e
      cases d
  have names : ∀ {b : Addr} {m : Str → Option Value}, s₁.heap.Ns b m → (hidT s₁.heap H).Ns b m := fun {b m} ⟨o, es, ep, e, d, r⟩ => ⟨o, es, ep, hidT_get e (free e d), d, r⟩
  have Kb : K.In (hidT s₁.heap H) := fun b o e => hidT_get (KX b o e) (by
    cases q : H b with
    | none => rfl
    | some u =>
      have z : b = a := at_ b (by rw [q]; exact fun y => nomatch y)
      subst z
      rw [notK (by rw [q]; exact fun y => nomatch y)] at e
      cases e)
  have hM : L2.Mod K mg (hidT s₁.heap H) := ⟨Kb, names hns, ⟨mb, names hb, hbb⟩, let ⟨mc, h1, h2⟩ := hlim; ⟨mc, names h1, h2⟩⟩
  have e0 : L2.Env0 P w K mg (hidT s₁.heap H) callerA [] s₁ H := ⟨rfl, hM, fun b o e => of_hidT e, Nat.le_of_eq (hidT_size _ _), trivial, fun b z => absurd (show b ∈ ([] : List Addr) from z) (by simp), ok, .of_eq hg⟩
  refine codeAny_mono ((F _ Kb (names hns)).run callerA [] s₁ H ⟨[.ref a], []⟩ [.ref a] [.ref a] _ _ hr rfl e0 (hbind s₁ (.ref a)) (.cons rfl .nil) hsp) fun r s' h => ?_
  rcases r with e | fl
  · exact False.elim h
  cases fl with
  | next => exact False.elim h
  | brk => exact False.elim h
  | cont => exact False.elim h
  | ret u =>
    obtain ⟨v, H', os, bare, un, ok', r', q⟩ := h
    obtain rfl : v = .bl true := q
    obtain rfl : u = Value.bool true := r'
    refine ⟨rfl, OldK.of_keep fun b o e => ?_, os, bare⟩
    cases q : H b with
    | none => exact un.keep b o e q (fun z => absurd (show b ∈ ([] : List Addr) from z) (by simp)) (by simp)
    | some u =>
      rcases hO b with z | ⟨ob, xs, z⟩
      · rw [q] at z
        cases z
      · obtain ⟨e1, _⟩ := ok b _ z
        obtain ⟨e2, _⟩ := ok' b _ (un.frzs b ob _ z)
        rw [e] at e1
        cases e1
        exact e2
theorem law_callG (KX : K.In s₁.heap) (hns : s₁.heap.Ns mainGlobals mg) (hb : s₁.heap.Ns builtinsNs mb) (hbb : ∀ x : Str, x ≠ "__name__" → mb x = bootBuiltins x) (hlim : s₁.heap.NoLimit) (hg : s₁.gens = #[])
    (ha : s₁.heap.get? a = some { cls := .type "list", data := .seq vs.toArray }) (hi : IntsAre vs ns) (hl : ns.length ≤ sizeLine) (hr : L2.Room k callerA)
    (F : ∀ base : Heap, K.In base → base.Ns mainGlobals mg → FnG P w K mg base k fa fd [x] sp) (hbind : ∀ (s : Shared) (u : Value), BindsTo s fd ⟨[u], []⟩ [(x, u)])
    (hsp : ∀ H : Hp, L2.Only H → SqL K H a (ns.map V.int) → sp [.ref a] H (fun v _ => v = .bl true) fun _ _ _ => False) : LawEnd P w fa a s₁ := by
  have rv := vals_ints hi
  have lenV := hi.length
  cases hk : K.lookup a with
  | some o =>
    have e := KX a o hk
    rw [ha] at e
    cases e
    have none_ : L2.Only (fun _ => none) := fun _ => .inl rfl
    exact end_from KX hns hb hbb hlim hg ha hr F hbind _ none_ (fun _ _ z => nomatch z) (fun _ z => absurd rfl z) (fun z => absurd rfl z)
      (hsp _ none_ (.inr ⟨_, vs.toArray, _, hk, rfl, rfl, rfl, by rw [List.size_toArray, lenV]; exact hl, by simpa using rv⟩))
  | none =>
    let H1 : Hp := fun b => if b = a then some (.frz { cls := .type "list", data := .seq vs.toArray } (.lst (ns.map V.int))) else none
    have at1 : H1 a = some (.frz { cls := .type "list", data := .seq vs.toArray } (.lst (ns.map V.int))) := if_pos rfl
    have ne1 : ∀ {b}, b ≠ a → H1 b = none := fun h => if_neg h
    have only1 : L2.Only H1 := fun b => by
      by_cases h : b = a
      · exact .inr ⟨_, _, by rw [h]; exact at1⟩
      · exact .inl (ne1 h)
    refine end_from KX hns hb hbb hlim hg ha hr F hbind H1 only1 (fun b u z => ?_) (fun b z => ?_) (fun _ => hk) (hsp _ only1 (.inl (.inr ⟨_, at1⟩)))
    · by_cases h : b = a
      · subst h
        rw [at1] at z
        cases z
        exact ⟨ha, by rw [List.length_map]; exact hl, vs, _, rv, ha⟩
      · rw [ne1 h] at z
        cases z
    · by_cases h : b = a
      · exact h
      · exact absurd (ne1 h) z
end
theorem walkG {l : PySem.W.OpenLaw} {n k : Nat} {q : Program} {loose : List Str} {XP : (Str → Option Value) → Heap → Prop} {YP : World → Heap → Prop} {d : DefRec} {K : Params → PySem.W.Frag} {sp : PySem.W.Frag → L2.Sp} {x : Str}
    (hn : l.most = some n) (hn2 : n ≤ sizeLine) (hdf : d.params.defaults = []) (hr : L2.Room k callerA) (hY : ∀ (w : World) (h : Heap), YP w h → (K w.params).In h)
    (F : ∀ (w : World) (mg : Str → Option Value) (fa : Addr) (h : Heap), (K w.params).In h → h.Ns mainGlobals mg → mg d.name = some (.ref fa) →
      ∃ fd : FuncData, (∀ (s : Shared) (u : Value), BindsTo s fd ⟨[u], []⟩ [(x, u)]) ∧ ∀ base : Heap, (K w.params).In base → base.Ns mainGlobals mg → FnG l.prog w (K w.params) mg base k fa fd [x] (sp (K w.params)))
    (hsp : ∀ (K : PySem.W.Frag) (H : Hp) (a : Addr) (ns : List Int), ns.length ≤ n → L2.Only H → SqL K H a (ns.map V.int) → sp K [.ref a] H (fun v _ => v = .bl true) fun _ _ _ => False) :
    PySem.W.WalkO q loose XP YP l.row.toRowW d [] (fun f vs => PySem.call f vs) := by
  refine Att.attach_call hn hdf fun w s₀ s₁ mg mb fa o pm cd doc a vs ns G Y ho hd hcd hmg hobj hints hlen hg => ?_
  have KX := hY w _ Y
  obtain ⟨fd, hb, hF⟩ := F w mg fa _ KX G.T.g hmg
  exact law_callG KX G.T.g G.T.b G.T.builtins G.T.nolimit hg hobj hints (Nat.le_trans hlen hn2) hr hF hb fun H hO hS => hsp (K w.params) H a ns hlen hO hS
end Mine

set_option Elab.async false
set_option linter.all false
set_option maxRecDepth 100000
set_option maxHeartbeats 4000000
/-! tuple(xs) as a plain tuple; dict(t) of a plain tuple of pairs. -/
namespace Mine
open PySem PySem.Spec PyProof.Rows L2
/-- a tuple that has no dict of its own -/
def TupN (K : PySem.W.Frag) (H : Hp) (a : Addr) (xs : List V) : Prop := (∃ o, H a = some (.frz o (.tup xs)) ∧ o.dict = none) ∨ (SqT K H a xs ∧ ∃ o, K.lookup a = some o ∧ o.dict = none)
theorem TupN.sq {K : PySem.W.Frag} {H : Hp} {a : Addr} {xs : List V} (h : TupN K H a xs) : SqT K H a xs := by
  rcases h with ⟨o, e, _⟩ | ⟨h, _⟩
  · exact .inl (.inr ⟨o, e⟩)
  · exact h
section
variable {X : Cx} {pins : List (Addr × Obj)} {σ : L2.St} {H : Hp} {s : Shared}
theorem call_tupleF : CallR X (.type "tuple") (fun xs H Q => ∃ p ys, xs = [.ref p] ∧ SqL X.K H p ys ∧ ∀ l o, H l = none → o.dict = none → Q (.ref l) (upd H l (.frz o (.tup ys)))) := by
  intro pins s σ H xs us Q I r h
  obtain ⟨p, ys, rfl, hq, q⟩ := h
  obtain ⟨u, rfl, rx⟩ := vals1 r
  cases rx
  obtain ⟨its, r', pl, hz⟩ := I.list hq
  have hlen := r'.length
  refine call_tuple_list pl.isList (fun h' kp => ?_) (by simp only [List.size_toArray] <;> omega)
  have I1 : L2.Inv X pins σ H { s with heap := h' } := I.kept (t' := s.toks) kp
  have I2 : L2.Inv X pins σ (upd H h'.objs.size (.frz { cls := .type "tuple", data := .seq its.toArray } (.tup ys))) { s with heap := h'.push { cls := .type "tuple", data := .seq its.toArray } } :=
    I1.laid (t' := s.toks) (fun b o e => Heap.get?_push_of_some _ e) (Nat.le_refl _) (show ObjOk X.prog X.w _ _ _ (.frz _ (.tup ys)) from ⟨Heap.get?_push_size _ rfl, hz, its, r', IsTup.new _ _⟩)
  exact ⟨.ref h'.objs.size, _, I2, rfl, q _ _ (I1.hok.fresh (Nat.le_refl _)) rfl⟩
theorem tupN_at {a : Addr} {xs : List V} (I : L2.Inv X pins σ H s) (h : TupN X.K H a xs) : ∃ (its : List Value) (o : Obj) (n : Nat), Vals xs its ∧ s.heap.get? a = some o ∧ o.cls = .type "tuple" ∧ o.dict = none ∧ o.data = .seq its.toArray n ∧ xs.length ≤ sizeLine := by
  rcases h with ⟨o, e, hd⟩ | ⟨h, o, hk, hd⟩
  · obtain ⟨g, hz, its, rv, o', ho, hc, n, hdat⟩ := (show ObjOk X.prog X.w H s.heap _ (.frz o (.tup xs)) from I.hok _ _ e)
    rw [g] at ho
    cases ho
    exact ⟨its, o, n, rv, g, hc, hd, hdat, hz⟩
  · obtain ⟨its, rv, ⟨o', ho, hc, n, hdat⟩, hz⟩ := I.tuple h
    have g := I.kIn a o hk
    rw [g] at ho
    cases ho
    exact ⟨its, o, n, rv, g, hc, hd, hdat, hz⟩
theorem pairs_all (I : L2.Inv X pins σ H s) : ∀ {ps : List Addr} {kvs : List (Key × V)}, Paired (fun p kv => SqT X.K H p [kV kv.1, kv.2]) ps kvs →
    ∃ L : List (Addr × Key × Value × Value), ps = L.map (·.1) ∧ KV kvs (L.map fun x => (x.2.1, x.2.2.2)) ∧ ∀ x ∈ L, IsTup s.heap x.1 #[x.2.2.1, x.2.2.2] ∧ keyIs x.2.1 x.2.2.1 = true
  | _, _, .nil => ⟨[], rfl, .nil, fun _ z => (List.not_mem_nil z).elim⟩
  | _, _, .cons (a := p) (b := kv) h t => by
    obtain ⟨L, e, r, hp⟩ := pairs_all I t
    obtain ⟨its, rv, ht, _⟩ := I.tuple h
    obtain ⟨u, y, ei, ru, ry⟩ := vals2 rv
    subst ei
    refine ⟨(p, kv.1, u, y) :: L, by rw [e]; rfl, .cons ⟨rfl, ry⟩ r, fun x hx => ?_⟩
    rcases List.mem_cons.mp hx with rfl | hx
    · exact ⟨ht, kV_is (P := X.prog) (w := X.w) ru⟩
    · exact hp x hx
theorem call_dictPT (hcalm : X.calm = true) : CallR X (.type "dict") (fun xs H Q => ∃ (a : Addr) (ps : List Addr) (kvs : List (Key × V)), xs = [.ref a] ∧ TupN X.K H a (ps.map V.ref) ∧ Paired (fun p kv => SqT X.K H p [kV kv.1, kv.2]) ps kvs ∧
    ∀ p, H p = none → Q (.ref p) (upd H p (.dK (mergeK [] kvs)))) := by
  intro pins s σ H xs us Q I r q
  obtain ⟨a, ps, kvs, ex, hq, hp, q⟩ := q
  subst ex
  obtain ⟨u, eu, rx⟩ := vals1 r
  subst eu
  cases rx
  obtain ⟨its, o, n, rv, ho, hc, hd, hdat, hz⟩ := tupN_at I hq
  have ei := refs_at rv
  subst ei
  rw [List.length_map] at hz
  obtain ⟨L, el, rel, hL⟩ := pairs_all I hp
  subst el
  rw [List.length_map] at hz
  have ok : PlainSeq "tuple" s.heap a ((L.map (·.1)).map Value.ref).toArray ∧ PairItems s.heap ((L.map (·.1)).map Value.ref).toArray (fun j => (L.map (·.1)).getD j 0) (L.map fun x => (x.2.2.1, x.2.2.2)) := by
    refine ⟨⟨o, n, ho, hc, hd, hdat⟩, by simp, fun j k v e => ?_⟩
    rw [List.getElem?_map] at e
    obtain ⟨x, hx, e⟩ := Option.map_eq_some_iff.mp e
    cases e
    have hj : (L.map (·.1))[j]? = some x.1 := by rw [List.getElem?_map, hx]; rfl
    refine ⟨by simp [hx, List.getD], .inl ?_⟩
    have : (L.map (·.1)).getD j 0 = x.1 := by rw [List.getD, hj]; rfl
    show s.heap.IsTuple ((L.map (·.1)).getD j 0) #[x.2.2.1, x.2.2.2]
    rw [this]
    exact (hL x (List.mem_of_getElem? hx)).1
  have hv : PairsHave (mixKind X.prog X.w) (L.map fun x => (x.2.2.1, x.2.2.2)).length (PairRel (L.map fun x => (x.2.2.1, x.2.2.2))) (L.map fun x => (x.2.1, x.2.2.2)) := by
    refine ⟨by simp, fun i key v e => ?_⟩
    have e : (L.map fun x => (x.2.2.1, x.2.2.2))[i]? = some (key, v) := e
    rw [List.getElem?_map] at e
    obtain ⟨x, hx, e⟩ := Option.map_eq_some_iff.mp e
    cases e
    exact ⟨x.2.1, by rw [List.getElem?_map, hx]; rfl, (hL x (List.mem_of_getElem? hx)).2⟩
  refine PySem.call_dict_pairs (PairArg.tuple a _ _ _) (I.ok.hd hcalm) ok hv (by rw [List.length_map]; exact hz) fun h' tk hd' k => ?_
  have hm : (s.heap.objs.size == sysModules) = false := beq_eq_false_iff_ne.mpr (Nat.ne_of_gt I.big)
  have hlen : (mergeK [] kvs).length ≤ sizeLine := by
    refine Nat.le_trans (length_mergeK kvs []) ?_
    rw [List.length_nil, Nat.zero_add, rel.length, List.length_map]
    exact hz
  exact ⟨.ref s.heap.objs.size, upd H s.heap.objs.size (.dK (mergeK [] kvs)), I.laid (t' := tk) (fun b o e => k b o (List.not_mem_nil) e) (Nat.le_refl _) (show ObjOk X.prog X.w _ _ _ (.dK (mergeK [] kvs)) from ⟨hlen, hm, merged [] _, KV.merge rel .nil, hd'⟩), rfl, q _ (I.hok.fresh (Nat.le_refl _))⟩
end
end Mine

set_option Elab.async false
set_option linter.all false
set_option maxRecDepth 100000
set_option maxHeartbeats 4000000
/-! The text of a list in which plain tuples stand, too. -/
namespace Mine
open PySem PySem.Spec PyProof.Rows L2
/-- a plain tuple -/
def Fz (H : Hp) (a : Addr) (xs : List V) : Prop := ∃ o, H a = some (.frz o (.tup xs)) ∧ o.dict = none
theorem Fz.sq {K : PySem.W.Frag} {H : Hp} {a : Addr} {xs : List V} (h : Fz H a xs) : SqT K H a xs := let ⟨o, e, _⟩ := h; .inl (.inr ⟨o, e⟩)
theorem Fz.n {K : PySem.W.Frag} {H : Hp} {a : Addr} {xs : List V} (h : Fz H a xs) : TupN K H a xs := .inl h
theorem Fz.upd {H : Hp} {a q : Addr} {xs : List V} {o : HO} (h : Fz H a xs) (hq : H q = none) : Fz (upd H q o) a xs := let ⟨o', e, d⟩ := h; ⟨o', (upd_ne (ne_of_none e hq)).trans e, d⟩
inductive DZ (H : Hp) : V → PyData → Prop
  | dk {v : V} {d : PyData} : DK H v d → DZ H v d
  | fz {a : Addr} {xs : List V} {ds : List PyData} : Fz H a xs → DKs H xs ds → DZ H (.ref a) (.tuple ds)
inductive DZs (H : Hp) : List V → List PyData → Prop
  | nil : DZs H [] []
  | cons {v : V} {vs : List V} {d : PyData} {ds : List PyData} : DZ H v d → DZs H vs ds → DZs H (v :: vs) (d :: ds)
section
variable {X : Cx} {pins : List (Addr × Obj)} {σ : L2.St} {H : Hp} {s : Shared}
theorem DZ.rk (I : L2.Inv X pins σ H s) {d : PyData} {v : V} {u : Value} (h : DZ H v d) (r : L2.RelV v u) (ok : d.showable = true) (hz : d.shown.length ≤ sizeLine) : Rk X.prog X.w s.heap u d := by
  cases h with
  | dk h => exact DK.rk I d v u h r ok hz
  | @fz a xs ds f r' =>
    obtain ⟨o, e, _⟩ := f
    cases r
    obtain ⟨_, _, its, rv, o, he, hc, n, hd⟩ := (show ObjOk X.prog X.w H s.heap _ (.frz _ (.tup _)) from I.hok _ _ e)
    have hz' : (tupleText (PyData.shownAll ds)).length ≤ sizeLine := by simpa only [PyData.shown] using hz
    exact Rk.tuple he hc hd (DKs.rks I ds _ its r' rv (by simpa [PyData.showable] using ok) fun t ht => Nat.le_trans (tupleText_mem_le ht) hz')
theorem DZs.rks (I : L2.Inv X pins σ H s) : ∀ (ds : List PyData) (vs : List V) (us : List Value), DZs H vs ds → L2.Vals vs us → PyData.showableAll ds = true → (∀ t ∈ PyData.shownAll ds, t.length ≤ sizeLine) → Rks X.prog X.w s.heap us ds
  | [], _, _, h, r, _, _ => by
    cases h; cases r
    exact ⟨⟨_, .nil⟩, [], (fun _ z => nomatch z), .nil⟩
  | d :: ds, _, _, h, r, ok, hz => by
    have ok' : d.showable = true ∧ PyData.showableAll ds = true := by simpa [PyData.showableAll] using ok
    cases h with
    | cons h1 h2 =>
      cases r with
      | cons r1 r2 =>
        exact Rks.cons (DZ.rk I h1 r1 ok'.1 (hz _ (by simp only [PyData.shownAll]; exact List.mem_cons_self ..))) (DZs.rks I ds _ _ h2 r2 ok'.2 fun t ht => hz t (by simp only [PyData.shownAll]; exact List.mem_cons_of_mem _ ht))
end
/-- repr of a list -/
def rReprZ : List V → Hp → VK → Prop := fun xs H Q => ∃ (a : Addr) (vs : List V) (ds : List PyData), xs = [.ref a] ∧ H a = some (.lst vs) ∧ DZs H vs ds ∧ Shows sizeLine 20 (.list ds) ∧ Q (.str (PyData.shown (.list ds))) H
theorem call_reprZ {X : Cx} (hg : X.A.guards = some []) (hu : X.A.units + 40 < cLine) : CallR X (.builtin "repr") rReprZ := by
  intro pins s σ H xs us Q I r h
  obtain ⟨a, vs, ds, rfl, e, r', S, q⟩ := h
  obtain ⟨u, rfl, rv⟩ := vals1 r
  cases (show u = Value.ref a from rv)
  obtain ⟨_, its, n, rvs, he⟩ := (show ObjOk X.prog X.w H s.heap _ (.lst _) from I.hok _ _ e)
  have hz' : (listText (PyData.shownAll ds)).length ≤ sizeLine := by simpa only [PyData.shown] using S.len
  have rks := DZs.rks I ds _ its r' rvs (by simpa [PyData.showable] using S.ok) fun t ht => Nat.le_trans (listText_mem_le ht) hz'
  obtain ⟨⟨as, ra⟩, bs, m, k⟩ := rks
  have rd : Reads s.heap (.ref a) (.list ds) (a :: as) := .list he rfl rfl ra
  have out : a ∉ bs := not_mem_of_deeper rd (by simp only [PyData.depth]; omega) m
  have dep : PyData.depthAll ds + 1 ≤ 20 := by simpa only [PyData.depth] using S.dep
  have fin : ∀ h' u tk, (∀ b o, s.heap.get? b = some o → h'.get? b = some o) → L2.EP X pins σ Q (.str (PyData.shown (.list ds)) u) { s with heap := h', toks := tk } := fun h' u tk kp => ⟨.str _, H, I.kept kp, ⟨_, rfl⟩, q⟩
  refine call_repr_slot (by omega) ⟨_, he, rfl⟩ PySem.F.slot_list_repr.toG ?_
  cases its with
  | nil =>
    cases ra
    refine call_list_repr_empty ⟨_, he, rfl⟩ he rfl ⟨_, _, rfl, ?_⟩
    have e0 : PyData.shown (.list []) = ("[]" : Str) := by simp only [PyData.shown, PyData.shownAll, listText_nil]
    rw [← e0]
    exact fin _ _ _ fun _ _ z => z
  | cons x l =>
    refine call_list_reprK he rfl rfl out (by simpa using k.length_eq) (fun i y e => k.item i y (by simpa using e)) (A := X.A.in1) hg (fun b _ => Clear.nil b) (by show X.A.units + 1 + _ < _; omega) (fun _ _ z => z) (fun h' u tk kp => ⟨_, _, rfl, ?_⟩) hz'
    have e0 : PyData.shown (.list ds) = listText (PyData.shownAll ds) := by simp only [PyData.shown]
    rw [← e0]
    exact fin h' u tk kp
end Mine

set_option Elab.async false
set_option linter.all false
set_option maxRecDepth 100000
set_option maxHeartbeats 4000000
/-! o.m(k1 = .., k2 = ..) of a method with two parameters, named the other way round. -/
namespace Mine
open PySem PySem.Spec PyProof.Rows L2
section
variable {X : Cx} {k : Nat} {f C : Addr} {fd : FuncData} {ps : List Str} {sp : L2.Sp} {m k1 k2 : Str} {pos apos : Pos} {o : Expr} {kws : List Keyword} {ta : TE} {tk : TA}
def tMethK2 (C : Addr) (m : Str) (sp : L2.Sp) (ta : TE) (tk : TA) : TE := fun σ H Q => ta σ H fun x H1 => ∃ a dx fs, x = .ref a ∧ H1 a = some (.ins C dx fs) ∧ fs.lookup m = none ∧ tk σ H1 fun zs H2 => ∃ u v, zs = [u, v] ∧ sp [x, v, u] H2 Q E0
theorem pe_methK2 {pl : Sem Bool} (he : PE X o ta) (c : Cls X.K C) (hm : Meth X.K C m f) (F : FnOk X.prog X.w X.K X.mg X.base CX0 k f fd ps sp) (hr : Room k X.A) (hps : ps.length = 3)
    (hb : ∀ (s : Shared) (a u v : Value), BindsTo s fd ⟨[a], [(k1, u), (k2, v)]⟩ (ps.zip [a, v, u])) (hkw : PK X kws tk)
    (hall : (backToKw pos (keywordEach kws X.env)).all (·.1.isSome) = true := by rfl) (hks : (backToKw pos (keywordEach kws X.env)).filterMap (·.1) = [k1, k2] := by rfl)
    (hpl : ((backTo pos (starEach [] X.env)).any (·.1) || (backToKw pos (keywordEach kws X.env)).any (·.1.isNone)) = false := by rfl)
    (ht : eval (.Call (.Attribute o m apos) [] kws pos) X.env = (do
      let ov ← eval o X.env
      standAt apos.atName
      let (f, first) ← holding [ov] (getMethod ov m pl)
      callWith pos f first (backTo pos (starEach [] X.env)) (backToKw pos (keywordEach kws X.env))) := by rfl) :
    PE X (.Call (.Attribute o m apos) [] kws pos) (tMethK2 C m sp ta tk) := by
  refine ⟨fun pins s σ H Q I h => ?_⟩
  refine PySem.W.methodCall_KW (pl := pl) (thn (he.run pins s σ H _ I h) fun u s1 ⟨x, H1, I1, rx, a, dx, fs, ex, ea, l, q⟩ => ?_) ht
  subst ex
  obtain rfl : u = Value.ref a := rx
  refine getmeth_ok I1 ea c hm l ?_
  refine PySem.W.callWith_KW0 (first := [.ref a]) (h₀ := X.base) I.ok.mod.kin hm.kp hall ?_ hpl
  refine thn (hkw.run pos pins s1 σ H1 _ I1 q) fun ws s2 ⟨zs, H2, I2, rz, uu, vv, ez, q2⟩ => ⟨I2.kIn, ?_⟩
  subst ez
  obtain ⟨w1, w2, ew, r1, r2⟩ := vals2 rz
  subst ew
  rw [hks]
  show wpAny _ _ (call (.ref f) [.ref a] [(k1, w1), (k2, w2)]) _ _ _
  refine wpAny_call (codeAny_mono (F.run X.A X.stack s2 H2 ⟨[.ref a], [(k1, w1), (k2, w2)]⟩ [.ref a, w2, w1] [.ref a, vv, uu] Q E0 hr I2.env0 (hb s2 (.ref a) w1 w2) (.cons rfl (.cons r2 (.cons r1 .nil))) q2) fun r s' hq => ?_)
  cases r with
  | error e => exact pass0 pins σ H2 s2 e s' I2 hq
  | ok fl =>
    cases fl with
    | ret u => exact I2.after hq
    | next => exact False.elim hq
    | brk => exact False.elim hq
    | cont => exact False.elim hq
end
end Mine

set_option Elab.async false
set_option linter.all false
set_option maxRecDepth 100000
set_option maxHeartbeats 4000000
/-! The deck: its cells, the mixed number, how many draws; a draw lies below what is asked. -/
namespace K05
open PySem PySem.Spec PyProof.Rows L2 Mine
def top (i : Nat) : Stmt := PySem.Challenge.pw_sealedalike_k05_needed_things.main.body.getD i (.Pass ⟨0, 0, 0, 0⟩)
abbrev sDeck : Stmt := top 31
abbrev sDraw : Stmt := top 32
def deckD (dl : Addr) (m t : Int) : List (Key × V) := [(Sum.inr (PySem.Str.ofString "cells"), .ref dl), (Sum.inr (PySem.Str.ofString "mixed"), .int m), (Sum.inr (PySem.Str.ofString "draws"), .int t)]
theorem neCM : ¬ (Sum.inr (PySem.Str.ofString "cells") : Key) = Sum.inr (PySem.Str.ofString "mixed") := by decide +kernel
theorem neCD : ¬ (Sum.inr (PySem.Str.ofString "cells") : Key) = Sum.inr (PySem.Str.ofString "draws") := by decide +kernel
theorem neMD : ¬ (Sum.inr (PySem.Str.ofString "mixed") : Key) = Sum.inr (PySem.Str.ofString "draws") := by decide +kernel
theorem vC {dl : Addr} {m t : Int} : valV (deckD dl m t) (Sum.inr (PySem.Str.ofString "cells")) = some (.ref dl) := valV_pos rfl
theorem vM {dl : Addr} {m t : Int} : valV (deckD dl m t) (Sum.inr (PySem.Str.ofString "mixed")) = some (.int m) := (valV_neg neCM).trans (valV_pos rfl)
theorem vD {dl : Addr} {m t : Int} : valV (deckD dl m t) (Sum.inr (PySem.Str.ofString "draws")) = some (.int t) := (valV_neg neCD).trans ((valV_neg neMD).trans (valV_pos rfl))
theorem pD {dl : Addr} {m t u : Int} : putK (deckD dl m t) (Sum.inr (PySem.Str.ofString "draws")) (.int u) = deckD dl m u := by
  have h1 := neCD
  have h2 := neMD
  have e1 : ¬ PySem.Str.ofString "cells" = PySem.Str.ofString "draws" := fun q => h1 (congrArg Sum.inr q)
  have e2 : ¬ PySem.Str.ofString "mixed" = PySem.Str.ofString "draws" := fun q => h2 (congrArg Sum.inr q)
  unfold putK deckD
  simp [e1, e2]
theorem gC {H : Hp} {dk dl : Addr} {m t : Int} (h : H dk = some (.dK (deckD dl m t))) : DGet H dk (.str (PySem.Str.ofString "cells")) (some (.ref dl)) := by
  have q := DGet.k (k := Sum.inr (PySem.Str.ofString "cells")) h
  rw [vC] at q
  exact q
theorem gM {H : Hp} {dk dl : Addr} {m t : Int} (h : H dk = some (.dK (deckD dl m t))) : DGet H dk (.str (PySem.Str.ofString "mixed")) (some (.int m)) := by
  have q := DGet.k (k := Sum.inr (PySem.Str.ofString "mixed")) h
  rw [vM] at q
  exact q
theorem gD {H : Hp} {dk dl : Addr} {m t : Int} (h : H dk = some (.dK (deckD dl m t))) : DGet H dk (.str (PySem.Str.ofString "draws")) (some (.int t)) := by
  have q := DGet.k (k := Sum.inr (PySem.Str.ofString "draws")) h
  rw [vD] at q
  exact q
theorem ppD {H : Hp} {dk dl : Addr} {m t u : Int} (h : H dk = some (.dK (deckD dl m t))) : DPut H dk (.str (PySem.Str.ofString "draws")) (.int u) (upd H dk (.dK (deckD dl m u))) := by
  have q := DPut.k (k := Sum.inr (PySem.Str.ofString "draws")) (v := .int u) h (by show 3 < sizeLine; decide)
  rw [pD] at q
  exact q
/-- the deck stands at dk, its cells at dl, after t draws -/
structure DeckAt (H : Hp) (dk dl : Addr) (t : Int) : Prop where
  d : ∃ m, H dk = some (.dK (deckD dl m t)) ∧ 0 ≤ m ∧ m < 2147483587
  l : ∃ cs : List Int, H dl = some (.lst (cs.map V.int)) ∧ cs.length ≤ 63
/-- all but the deck stands -/
def Keep (dk dl : Addr) (H H' : Hp) : Prop := ∀ b o, b ≠ dk → b ≠ dl → H b = some o → H' b = some o
def spDraw : Sp := fun vs H Q _ => ∃ (dk dl : Addr) (b t : Int), vs = [.ref dk, .int b] ∧ DeckAt H dk dl t ∧ 1 ≤ b ∧ b ≤ 1000 ∧ 0 ≤ t ∧ t ≤ 100000 ∧
  ∀ (r : Int) (H' : Hp), 0 ≤ r → r < b → DeckAt H' dk dl (t + 1) → Keep dk dl H H' → Q (.int r) H'
structure TxtD (mg : Str → Option Value) : Prop where
  int : mg "int" = none
  lst : mg "list" = none
theorem ints_dp {H : Hp} {K : PySem.W.Frag} : ∀ cs : List Int, DpAll K H (cs.map V.int) (cs.map PyData.int)
  | [] => .nil
  | c :: cs => .cons (.int c) (ints_dp cs)
theorem ints_lay : ∀ cs : List Int, PyData.canLayAll0 (cs.map PyData.int) = true
  | [] => by simp [PyData.canLayAll0]
  | c :: cs => by simp [PyData.canLayAll0, PyData.canLay0, ints_lay cs]
theorem ints_dep : ∀ cs : List Int, PyData.depthAll (cs.map PyData.int) = 0
  | [] => by simp [PyData.depthAll]
  | c :: cs => by simp [PyData.depthAll, PyData.depth, ints_dep cs]
theorem ints_shaped (cs : List Int) : SeqAt.shaped (.list (cs.map PyData.int)) = true := by
  show (PyData.canLay0 (.list (cs.map PyData.int)) && decide (PyData.depth (.list (cs.map PyData.int)) ≤ 64)) = true
  rw [Bool.and_eq_true]
  refine ⟨by simp only [PyData.canLay0]; exact ints_lay cs, decide_eq_true ?_⟩
  simp only [PyData.depth, ints_dep]
  decide
section
variable {P : Program} {w : World} {K : PySem.W.Frag} {mg : Str → Option Value} {base : Heap}
theorem scDraw : FnScope ["_law_deck_here", "_law_below", "_law_turn", "_law_cell", "_law_figure"] ["_law_deck_here", "_law_below"] (defScope sDraw) := ⟨rfl, rfl, rfl, by decide +kernel, rfl, by decide +kernel, by decide +kernel⟩
theorem ok_draw {f : Addr} {fd : FuncData} (F : Fun K "_law_draw" "_law_draw" sDraw f fd) (T : TxtD mg) : FnOk P w K mg base CX0 1 f fd ["_law_deck_here", "_law_below"] spDraw := by
  refine F.ok scDraw (fun vs H Q E h => ?_) (fun cdv A outer s H vs Q E hr h => ?_)
  · obtain ⟨dk, dl, b, t, rfl, _⟩ := h
    rfl
  · obtain ⟨dk, dl, b, t, rfl, ⟨⟨m, hd, m0, m1⟩, ⟨cs, hl, hcs⟩⟩, b1, b2, t0, t1, k⟩ := h
    have hu := hu_of hr
    have ne : dk ≠ dl := ne_of hd hl (by intro z; cases z)
    have em : ∀ (i j : Int), 0 < j → 0 ≤ i % j ∧ i % j < j := fun i j h => ⟨Int.emod_nonneg i (Int.ne_of_gt h), Int.emod_lt_of_pos i h⟩
    -- the last three statements
    have tail : ∃ tl, PSs (cxOf CX0 P w K mg base ["_law_deck_here", "_law_below", "_law_turn", "_law_cell", "_law_figure"] "_law_draw" (defScope sDraw) f cdv A outer s H E).nox ((defBody sDraw).drop 3) tl ∧
        ∀ (c : Int) (v : Option V) (H2 : Hp), DeckAt H2 dk dl (t + 1) → Keep dk dl H H2 → tl { nx := fun _ H' => Q .non H', rt := Q } [some (.ref dk), some (.int b), some (.int (t + 1)), some (.int c), v] H2 := by
      refine ⟨_, pss_cons (ps_set (i := 4) scDraw.nd rfl (.inl rfl) (pe_op op_mod (pe_op op_mul (pe_callTy call_int1 (by rfl) T.int (by decide +kernel) (pa_cons (pe_op op_add (pe_op op_add (pe_op op_mod (pe_callTy call_int1 (by rfl) T.int (by decide +kernel) (pa_cons (pv 3) pa_nil)) pe_int) (pe_op op_mul (pe_op op_mul pe_int (pv 2)) (pv 2))) pe_int) pa_nil)) pe_int) pe_int))
        (pss_cons (ps_set (i := 4) scDraw.nd rfl (.inl rfl) (pe_op op_mod (pe_callTy call_int1 (by rfl) T.int (by decide +kernel) (pa_cons (pe_op op_add (pe_op op_add (pe_op op_mul (pv 4) (pv 4)) (pe_op op_mul pe_int (pv 2))) pe_int) pa_nil)) pe_int))
        (pss_one (ps_ret (pe_op op_mod (pe_op op_fdiv (pe_op op_mod (pe_callTy call_int1 (by rfl) T.int (by decide +kernel) (pa_cons (pe_op op_mul (pv 4) pe_int) pa_nil)) pe_int) pe_int) (pv 1))))), ?_⟩
      intro c v H2 hD hK
      have u1 : CMul 60710 (t + 1) := .inl ⟨by decide, by decide⟩
      refine ⟨_, rfl, .inl ⟨_, rfl, _, _, rfl, rfl, (by decide : (0 : Int) < 2147483629), _, rfl, _, _, rfl, rfl, u1, _, rfl, _, _, rfl, rfl, .inr ⟨by omega, by omega⟩, _, _, rfl, rfl, _, _, rfl, rfl, .inl ⟨_, rfl, _, _, rfl, rfl, .inr ⟨by decide, by decide⟩, _, _, rfl, rfl, (by decide : (0 : Int) < 2147483647), ?_⟩⟩⟩
      have b3 := em ((c % 2147483629 + 60710 * (t + 1) * (t + 1) + 58) * 40692) 2147483647 (by decide)
      refine ⟨_, rfl, _, rfl, _, _, rfl, rfl, .inl ⟨Int.lt_of_lt_of_le (by decide) b3.1, Int.lt_trans b3.2 (by decide)⟩, _, rfl, _, _, rfl, rfl, .inl ⟨by decide, by decide⟩, _, _, rfl, rfl, _, _, rfl, rfl, .inl ⟨_, rfl, _, _, rfl, rfl, (by decide : (0 : Int) < 2147483579), ?_⟩⟩
      refine ⟨_, rfl, _, _, rfl, rfl, .inr ⟨by decide, by decide⟩, .inl ⟨_, rfl, _, _, rfl, rfl, (by decide : (0 : Int) < 2147483563), _, _, rfl, rfl, ⟨by decide, by decide⟩, _, rfl, _, _, rfl, rfl, (by omega : (0 : Int) < b), ?_⟩⟩
      exact k _ _ (em _ b (by omega)).1 (em _ b (by omega)).2 hD hK
    obtain ⟨tl, htl, ptl⟩ := tail
    refine ⟨_, pss_cons (ps_dput hu (pv 0) pe_str (pe_op op_add (pe_dget hu (pv 0) pe_str (fun _ _ => rfl)) pe_int) rfl)
      (pss_cons (ps_par (i := 2) (j := 3) rfl scDraw.nd rfl rfl (by decide) rfl rfl (pa_cons (pe_dget hu (pv 0) pe_str (fun _ _ => rfl)) (pa_cons (pe_dget hu (pv 0) pe_str (fun _ _ => rfl)) pa_nil)) (by rfl))
      (pss_cons (ps_if (pt_cmpR (op_neD hr.units) (pe_dget hu (pv 0) pe_str (fun _ _ => rfl)) (pe_lst pa_nil) (nomark _))
        (pss_cons (ps_set (i := 3) scDraw.nd rfl (.inl rfl) (pe_bm0 PySem.F.plainAttrs_list PySem.F.slot_list_pop PySem.F.type_list_pop mt_pop (pe_dget hu (pv 0) pe_str (fun _ _ => rfl))))
        (pss_cons (ps_if (pt_cmpR op_ge (pv 3) (pe_op op_pow pe_int pe_int) (nomark _))
          (pss_cons (ps_expr (pe_bm PySem.F.plainAttrs_list PySem.F.slot_list_append PySem.F.type_list_append mt_append (pe_dget hu (pv 0) pe_str (fun _ _ => rfl)) (pa_cons (pe_op op_fdiv (pv 3) (pv 1)) pa_nil)))
          (pss_one (ps_ret (pe_op op_mod (pe_callTy call_int1 (by rfl) T.int (by decide +kernel) (pa_cons (pv 3) pa_nil)) (pv 1))))) pss_nil)
        (pss_one (ps_set (i := 3) scDraw.nd rfl (.inl rfl) (pe_op op_add (pe_callTy call_int1 (by rfl) T.int (by decide +kernel) (pa_cons (pv 3) pa_nil)) (pe_dget hu (pv 0) pe_str (fun _ _ => rfl))))))) pss_nil)
      htl)), ?_⟩
    refine ⟨_, rfl, dk, _, rfl, gD hd, _, _, rfl, rfl, _, rfl, dk, _, rfl, ppD hd, ?_⟩
    have hd1 : upd H dk (.dK (deckD dl m (t + 1))) dk = some (.dK (deckD dl m (t + 1))) := upd_same
    have hl1 : upd H dk (.dK (deckD dl m (t + 1))) dl = some (.lst (cs.map V.int)) := (upd_ne ne.symm).trans hl
    have k1 : Keep dk dl H (upd H dk (.dK (deckD dl m (t + 1)))) := fun c o h1 _ e => (upd_ne h1).trans e
    generalize upd H dk (.dK (deckD dl m (t + 1))) = H1 at hd1 hl1 k1
    refine ⟨_, rfl, dk, _, rfl, gD hd1, _, rfl, dk, _, rfl, gM hd1, _, _, rfl, ?_⟩
    refine ⟨_, rfl, dk, _, rfl, gC hd1, (by show 0 ≤ sizeLine; exact Nat.zero_le _), fun p hp => ?_⟩
    have np : ∀ {b : Addr} {o : HO}, H1 b = some o → b ≠ p := fun e => ne_of_none e hp
    have kp : Keep dk dl H (upd H1 p (.lst [])) := fun c o h1 h2 e => (upd_ne (np (k1 c o h1 h2 e))).trans (k1 c o h1 h2 e)
    have hd2 : upd H1 p (.lst []) dk = _ := (upd_ne (np hd1)).trans hd1
    have hl2 : upd H1 p (.lst []) dl = _ := (upd_ne (np hl1)).trans hl1
    have hp2 : upd H1 p (.lst []) p = some (.lst []) := upd_same
    generalize upd H1 p (.lst []) = H2 at kp hd2 hl2 hp2
    refine ⟨_, _, .lst (.inl (.inl hl2)) (ints_dp cs), .lst (.inl (.inl hp2)) .nil, ints_shaped cs, rfl, _, rfl, ?_⟩
    cases cs with
    | nil =>
      refine iteF ?_
      exact ptl m none H2 ⟨⟨m, hd2, m0, m1⟩, ⟨[], hl2, Nat.zero_le _⟩⟩ kp
    | cons c0 cr =>
      refine iteT ?_
      obtain ⟨z, hz⟩ : ∃ z, ((c0 :: cr).map V.int)[((c0 :: cr).map V.int).length - 1]? = some (V.int z) := by
        refine ⟨(c0 :: cr).getLast (List.cons_ne_nil _ _), ?_⟩
        rw [List.length_map, List.getElem?_map, ← List.getLast?_eq_getElem?]
        rfl
      have hdrop : ((c0 :: cr).map V.int).dropLast = (c0 :: cr).dropLast.map V.int := (List.map_dropLast).symm
      have hlen : (c0 :: cr).dropLast.length ≤ 62 := by
        rw [List.length_dropLast]
        omega
      refine ⟨_, rfl, dk, _, rfl, gC hd2, .inl ⟨rfl, _, .inl (.inl hl2)⟩, dl, _, _, rfl, rfl, hl2, hz, ?_⟩
      rw [hdrop]
      have hd3 : upd H2 dl (.lst ((c0 :: cr).dropLast.map V.int)) dk = _ := (upd_ne ne).trans hd2
      have hl3 : upd H2 dl (.lst ((c0 :: cr).dropLast.map V.int)) dl = _ := upd_same
      have k3 : Keep dk dl H (upd H2 dl (.lst ((c0 :: cr).dropLast.map V.int))) := fun c o h1 h2 e => (upd_ne h2).trans (kp c o h1 h2 e)
      generalize (c0 :: cr).dropLast = dr at hd3 hl3 k3 hlen
      generalize upd H2 dl (.lst (dr.map V.int)) = H3 at hd3 hl3 k3
      refine ⟨_, rfl, _, _, rfl, rfl, ⟨by decide, by decide, by decide⟩, _, _, rfl, rfl, _, rfl, ?_⟩
      refine ite2 (fun _ => ?_) (fun _ => ?_)
      · refine ⟨_, rfl, dk, _, rfl, gC hd3, .inl ⟨rfl, _, .inl (.inl hl3)⟩, _, rfl, _, rfl, _, _, rfl, rfl, ⟨by omega, by omega⟩, dl, _, _, rfl, rfl, hl3, ?_, ?_⟩
        · show (dr.map V.int).length < sizeLine
          rw [List.length_map, sizeLine_eq]
          omega
        · refine ⟨_, rfl, .inl ⟨_, rfl, _, rfl, _, _, rfl, rfl, (by omega : (0 : Int) < b), ?_⟩⟩
          refine k _ _ (em z b (by omega)).1 (em z b (by omega)).2 ⟨⟨m, (upd_ne ne).trans hd3, m0, m1⟩, ⟨dr ++ [z / b], ?_, ?_⟩⟩ fun c o h1 h2 e => (upd_ne h2).trans (k3 c o h1 h2 e)
          · rw [upd_same, List.map_append]
            rfl
          · rw [List.length_append]
            show dr.length + 1 ≤ 63
            omega
      · refine ⟨_, rfl, .inl ⟨_, rfl, _, rfl, dk, _, rfl, gM hd3, _, _, rfl, rfl, ?_⟩⟩
        exact ptl (z + m) none H3 ⟨⟨m, hd3, m0, m1⟩, ⟨dr, hl3, by omega⟩⟩ k3
end
end K05

set_option Elab.async false
set_option linter.all false
set_option maxRecDepth 100000
set_option maxHeartbeats 4000000
/-! The deck is made of the script. -/
namespace K05
open PySem PySem.Spec PyProof.Rows L2 Mine
def spDeck (K : PySem.W.Frag) : Sp := fun vs H Q _ => ∃ (a : Addr) (ns : List Int), vs = [.ref a] ∧ SqL K H a (ns.map V.int) ∧ ns.length ≤ 63 ∧
  ∀ (dk dl : Addr) (H' : Hp), Same H H' → H dk = none → H dl = none → DeckAt H' dk dl 0 → Q (.ref dk) H'
theorem merged {dl : Addr} {m : Int} : mergeK [] (deckD dl m 0) = deckD dl m 0 := by
  have e1 : ¬ PySem.Str.ofString "cells" = PySem.Str.ofString "mixed" := fun q => neCM (congrArg Sum.inr q)
  have e2 : ¬ PySem.Str.ofString "cells" = PySem.Str.ofString "draws" := fun q => neCD (congrArg Sum.inr q)
  have e3 : ¬ PySem.Str.ofString "mixed" = PySem.Str.ofString "draws" := fun q => neMD (congrArg Sum.inr q)
  simp [mergeK, deckD, putK, e1, e2, e3]
theorem same_new {H H1 : Hp} {p : Addr} {o : HO} (h : Same H H1) (hp : H1 p = none) : Same H (upd H1 p o) := fun b u e => (upd_ne (ne_of_none (h b u e) hp)).trans (h b u e)
section
variable {P : Program} {w : World} {K : PySem.W.Frag} {mg : Str → Option Value} {base : Heap}
theorem scDeck : FnScope ["_law_script", "_law_cells", "_law_mixed", "_law_cell"] ["_law_script"] (defScope sDeck) := ⟨rfl, rfl, rfl, by decide +kernel, rfl, by decide +kernel, by decide +kernel⟩
theorem ok_deck {f : Addr} {fd : FuncData} (F : Fun K "_law_deck" "_law_deck" sDeck f fd) (T : TxtD mg) : FnOk P w K mg base CX0 1 f fd ["_law_script"] (spDeck K) := by
  refine F.ok scDeck (fun vs H Q E h => ?_) (fun cdv A outer s H vs Q E hr h => ?_)
  · obtain ⟨a, ns, rfl, _⟩ := h
    rfl
  · obtain ⟨a, ns, rfl, hS, hlen, k⟩ := h
    have em : ∀ (i j : Int), 0 < j → 0 ≤ i % j ∧ i % j < j := fun i j h => ⟨Int.emod_nonneg i (Int.ne_of_gt h), Int.emod_lt_of_pos i h⟩
    refine ⟨_, pss_cons (ps_par (i := 1) (j := 2) rfl scDeck.nd rfl rfl (by decide) rfl rfl (pa_cons (pe_callTy call_list_of (by rfl) T.lst (by decide +kernel) (pa_cons (pe_slice sl_list (pv 0) po_none (po_some pe_int)) pa_nil)) (pa_cons pe_int pa_nil)) (by rfl))
      (pss_cons (ps_for PassesOwn.never rfl (pi_list (pv 1)) (pg_name (i := 3) scDeck.nd rfl (.inl rfl))
        (pss_one (ps_set (i := 2) scDeck.nd rfl (.inl rfl) (pe_op op_mod (pe_callTy call_int1 (by rfl) T.int (by decide +kernel) (pa_cons (pe_op op_add (pe_op op_add (pe_op op_mul (pv 2) pe_int) (pe_op op_mod (pe_callTy call_int1 (by rfl) T.int (by decide +kernel) (pa_cons (pv 3) pa_nil)) pe_int)) pe_int) pa_nil)) pe_int))))
      (pss_one (ps_ret (pe_disp (pps_cons pe_str (pe_revL (pv 1)) (pps_cons pe_str (pv 2) (pps_cons pe_str pe_int pps_nil))) (by rfl) (by rfl) (fun z => by cases z) (by decide))))), ?_⟩
    refine ⟨_, rfl, _, rfl, a, _, rfl, hS, fun p hp => ⟨p, _, rfl, .inl (SqL.of upd_same), fun l hl => ?_⟩⟩
    obtain ⟨cs, ecs, hcs⟩ : ∃ cs : List Int, cutV (ns.map V.int) none (some 63) = cs.map V.int ∧ cs.length ≤ 63 := by
      refine ⟨(ns.drop (HT.sIx (ns.map V.int).length 0 none)).take (HT.sIx (ns.map V.int).length (ns.map V.int).length (some 63) - HT.sIx (ns.map V.int).length 0 none), ?_, ?_⟩
      · unfold cutV
        rw [List.map_take, List.map_drop]
      · rw [List.length_take, List.length_drop]
        omega
    rw [ecs]
    have s1 : Same H (upd H p (.lst (cs.map V.int))) := same_new (fun _ _ e => e) hp
    have s2 : Same H (upd (upd H p (.lst (cs.map V.int))) l (.lst (cs.map V.int))) := same_new s1 (by rw [← ecs]; exact hl)
    have hl2 : upd (upd H p (.lst (cs.map V.int))) l (.lst (cs.map V.int)) l = some (.lst (cs.map V.int)) := upd_same
    generalize upd (upd H p (.lst (cs.map V.int))) l (.lst (cs.map V.int)) = H1 at s2 hl2
    refine ⟨_, _, rfl, ?_⟩
    refine ⟨_, rfl, l, rfl, ⟨_, .inl (.inl hl2)⟩, for_list (K := K) (a := l) (xs := cs.map V.int) (fun i σ H2 => ∃ (m : Int) (v : Option V), σ = [some (.ref a), some (.ref l), some (.int m), v] ∧ H2 = H1 ∧ 0 ≤ m ∧ m < 2147483587)
      ⟨1085705, none, rfl, rfl, by decide, by decide⟩ (fun i σ H2 _ ⟨_, _, _, e, _⟩ => by rw [e]; exact .inl (.inl hl2)) ?_ ?_⟩
    · rintro i y σ H2 hi ⟨m, v, rfl, rfl, m0, m1⟩
      obtain ⟨z, rfl⟩ : ∃ z, y = V.int z := by
        rw [List.getElem?_map] at hi
        cases e : cs[i]? with
        | none =>
          rw [e] at hi
          cases hi
        | some z =>
          rw [e] at hi
          exact ⟨z, (Option.some.inj hi).symm⟩
      refine ⟨_, rfl, _, _, rfl, rfl, .inr ⟨by decide, by decide⟩, _, rfl, .inl ⟨_, rfl, _, _, rfl, rfl, (by decide : (0 : Int) < 2147483629), _, _, rfl, rfl, _, _, rfl, rfl, .inl ⟨_, rfl, _, _, rfl, rfl, (by decide : (0 : Int) < 2147483587), ?_⟩⟩⟩
      exact ⟨_, _, rfl, rfl, (em _ _ (by decide)).1, (em _ _ (by decide)).2⟩
    · rintro σ H2 ⟨m, v, rfl, rfl, m0, m1⟩
      intro d hd
      have nl : l ≠ d := ne_of_none hl2 hd
      refine ⟨_, rfl, l, _, rfl, .inl (.inl ((upd_ne nl).trans hl2)), fun q hq => ⟨_, rfl, ?_⟩⟩
      have nq : d ≠ q := ne_of_none upd_same hq
      refine ⟨(upd_ne nq).trans upd_same, deckD q m 0, rfl, (by show 3 ≤ 15; decide), ?_⟩
      have fr : ∀ {c : Addr}, H2 c = none → H c = none := fun {c} e => by
        cases z : H c with
        | none => rfl
        | some o =>
          rw [s2 c o z] at e
          cases e
      have hq0 : H2 q = none := (upd_ne nq.symm).symm.trans hq
      rw [merged]
      refine k d q _ (fun b o e => ?_) (fr hd) (fr hq0) ⟨⟨m, upd_same, m0, m1⟩, ⟨cs.reverse, ?_, ?_⟩⟩
      · rw [upd_ne (ne_of_none (s2 b o e) hd), upd_ne (ne_of_none (s2 b o e) hq0), upd_ne (ne_of_none (s2 b o e) hd)]
        exact s2 b o e
      · rw [upd_ne nq.symm, upd_same, List.map_reverse]
      · rw [List.length_reverse]
        exact hcs
end
end K05

set_option Elab.async false
set_option linter.all false
set_option maxRecDepth 100000
set_option maxHeartbeats 4000000
/-! Heaps that keep, new things, data shown; picks and needs. -/
namespace K05
open PySem PySem.Spec PyProof.Rows L2 Mine
/-- what is new in a heap -/
def Nw (H H' : Hp) : Hp := fun b => if H b = none then H' b else none
theorem Nw.at {H H' : Hp} {b : Addr} {o : HO} (h : H b = none) (e : H' b = some o) : Nw H H' b = some o := by
  unfold Nw
  rw [if_pos h]
  exact e
theorem Nw.of {H H' : Hp} {b : Addr} {o : HO} (e : Nw H H' b = some o) : H b = none ∧ H' b = some o := by
  unfold Nw at e
  by_cases h : H b = none
  · rw [if_pos h] at e
    exact ⟨h, e⟩
  · rw [if_neg h] at e
    cases e
theorem Nw.mono {H0 H H' H'' : Hp} (dom : ∀ b, H b = none → H0 b = none) (k : ∀ b o, H b = none → H' b = some o → H'' b = some o) : ∀ b o, Nw H H' b = some o → Nw H0 H'' b = some o := fun b o e =>
  let ⟨h1, h2⟩ := Nw.of e
  Nw.at (dom b h1) (k b o h1 h2)
theorem Keep.trans {dk dl : Addr} {H H1 H2 : Hp} (a : Keep dk dl H H1) (b : Keep dk dl H1 H2) : Keep dk dl H H2 := fun c o h1 h2 e => b c o h1 h2 (a c o h1 h2 e)
theorem Keep.new {dk dl p : Addr} {H H1 : Hp} {o : HO} (a : Keep dk dl H H1) (hp : H1 p = none) : Keep dk dl H (upd H1 p o) := fun c u h1 h2 e => (upd_ne (ne_of_none (a c u h1 h2 e) hp)).trans (a c u h1 h2 e)
theorem Keep.refl {dk dl : Addr} {H : Hp} : Keep dk dl H H := fun _ _ _ _ e => e
theorem DeckAt.new {dk dl p : Addr} {H : Hp} {t : Int} {o : HO} (h : DeckAt H dk dl t) (hp : H p = none) : DeckAt (upd H p o) dk dl t := by
  obtain ⟨⟨m, h1, m0, m1⟩, ⟨cs, h2, l⟩⟩ := h
  exact ⟨⟨m, (upd_ne (ne_of_none h1 hp)).trans h1, m0, m1⟩, ⟨cs, (upd_ne (ne_of_none h2 hp)).trans h2, l⟩⟩
theorem DeckAt.off {dk dl p : Addr} {H : Hp} {t : Int} (h : DeckAt H dk dl t) (hp : H p = none) : p ≠ dk ∧ p ≠ dl := by
  obtain ⟨⟨m, h1, _⟩, ⟨cs, h2, _⟩⟩ := h
  exact ⟨(ne_of_none h1 hp).symm, (ne_of_none h2 hp).symm⟩
theorem DeckAt.dom {dk dl : Addr} {H H' : Hp} {t t' : Int} (h : DeckAt H dk dl t) (h' : DeckAt H' dk dl t') (k : Keep dk dl H H') : ∀ b, H' b = none → H b = none := fun b e => by
  cases z : H b with
  | none => rfl
  | some o =>
    by_cases e1 : b = dk
    · obtain ⟨⟨m, h1, _⟩, _⟩ := h'
      rw [e1, h1] at e
      cases e
    · by_cases e2 : b = dl
      · obtain ⟨_, ⟨cs, h2, _⟩⟩ := h'
        rw [e2, h2] at e
        cases e
      · rw [k b o e1 e2 z] at e
        cases e
/-- what a deed on the deck alone leaves of new things -/
theorem Keep.news {dk dl : Addr} {H H' H'' : Hp} {t : Int} (h : DeckAt H dk dl t) (k : Keep dk dl H' H'') : ∀ b o, H b = none → H' b = some o → H'' b = some o := fun b o n e =>
  let ⟨h1, h2⟩ := h.off n
  k b o h1 h2 e
theorem _root_.Mine.Shows.up {n n' l l' : Nat} {d : PyData} (h : Shows n l d) (h1 : n ≤ n') (h2 : l ≤ l') : Shows n' l' d := ⟨h.ok, Nat.le_trans h.len h1, Nat.le_trans h.dep h2⟩
/-- all of them -/
theorem _root_.Mine.DKs.snoc' {H : Hp} {vs : List V} {ds : List PyData} {v : V} {d : PyData} (a : DKs H vs ds) (h : DK H v d) : DKs H (vs ++ [v]) (ds ++ [d]) := DKs.snoc h a
structure ShowsAll (n l k : Nat) (ds : List PyData) : Prop where
  ok : PyData.showableAll ds = true
  len : ((PyData.shownAll ds).map (·.length)).sum ≤ n * k
  num : (PyData.shownAll ds).length ≤ k
  dep : PyData.depthAll ds ≤ l
theorem ShowsAll.nil {n l : Nat} : ShowsAll n l 0 [] := ⟨by simp [PyData.showableAll], by simp [PyData.shownAll], by simp [PyData.shownAll], by simp [PyData.depthAll]⟩
theorem ShowsAll.snoc {n l k : Nat} {d : PyData} (h : Shows n l d) : ∀ {ds : List PyData}, ShowsAll n l k ds → ShowsAll n l (k + 1) (ds ++ [d]) := fun {ds} a => by
  have ap1 : ∀ xs : List PyData, PyData.showableAll (xs ++ [d]) = (PyData.showableAll xs && d.showable) := fun xs => by
    induction xs with
    | nil => simp [PyData.showableAll]
    | cons x r ih => simp [PyData.showableAll, ih, Bool.and_assoc]
  have ap2 : ∀ xs : List PyData, PyData.shownAll (xs ++ [d]) = PyData.shownAll xs ++ [d.shown] := fun xs => by
    induction xs with
    | nil => simp [PyData.shownAll]
    | cons x r ih => simp [PyData.shownAll, ih]
  have ap3 : ∀ xs : List PyData, PyData.depthAll (xs ++ [d]) = max (PyData.depthAll xs) d.depth := fun xs => by
    induction xs with
    | nil => simp [PyData.depthAll]
    | cons x r ih =>
      simp only [List.cons_append, PyData.depthAll, ih]
      omega
  refine ⟨by rw [ap1, a.ok, h.ok]; rfl, ?_, ?_, ?_⟩
  · rw [ap2, List.map_append, List.sum_append, Nat.mul_succ]
    have := h.len
    have := a.len
    simp only [List.map_cons, List.map_nil, List.sum_cons, List.sum_nil]
    omega
  · rw [ap2, List.length_append]
    have := a.num
    simp only [List.length_cons, List.length_nil]
    omega
  · rw [ap3]
    have := h.dep
    have := a.dep
    omega
theorem ShowsAll.list {n l k : Nat} {ds : List PyData} (a : ShowsAll n l k ds) (hk : k ≤ 3) : Shows (3 * n + 9) (l + 1) (.list ds) := by
  have h1 := listText_len_le (PyData.shownAll ds)
  have h2 : n * k ≤ n * 3 := Nat.mul_le_mul_left n hk
  have h3 := a.len
  have h4 := a.num
  have h5 := a.dep
  exact ⟨by simpa only [PyData.showable] using a.ok, by simp only [PyData.shown]; omega, by simp only [PyData.depth]; omega⟩
theorem ShowsAll.tuple {n l k : Nat} {ds : List PyData} (a : ShowsAll n l k ds) (hk : k ≤ 3) : Shows (3 * n + 9) (l + 1) (.tuple ds) := by
  have h1 := tupleText_len_le (PyData.shownAll ds)
  have h2 : n * k ≤ n * 3 := Nat.mul_le_mul_left n hk
  have h3 := a.len
  have h4 := a.num
  have h5 := a.dep
  exact ⟨by simpa only [PyData.showable] using a.ok, by simp only [PyData.shown]; omega, by simp only [PyData.depth]; omega⟩
theorem pick {xs : List V} {r : Int} (h0 : 0 ≤ r) (h1 : r < (xs.length : Int)) : ∃ y, y ∈ xs ∧ atI xs r = some y := by
  obtain ⟨j, rfl⟩ := Int.eq_ofNat_of_zero_le h0
  have hj : j < xs.length := by omega
  exact ⟨xs[j], List.getElem_mem hj, atI_nat (List.getElem?_eq_getElem hj)⟩
theorem same_rfl {H : Hp} : Same H H := fun _ _ e => e
theorem same_tr {H H1 H2 : Hp} (a : Same H H1) (b : Same H1 H2) : Same H H2 := fun p o e => b p o (a p o e)
theorem same_free {H H' : Hp} (k : Same H H') {b : Addr} (e : H' b = none) : H b = none := by
  cases z : H b with
  | none => rfl
  | some o =>
    rw [k b o z] at e
    cases e

end K05

set_option Elab.async false
set_option linter.all false
set_option maxRecDepth 100000
set_option maxHeartbeats 4000000
/-! A pick out of a list; a need. -/
namespace K05
open PySem PySem.Spec PyProof.Rows L2 Mine
abbrev sPick : Stmt := top 33
abbrev sNeed : Stmt := top 34
mutual
theorem dk_dp {H : Hp} (K : PySem.W.Frag) : ∀ (d : PyData) (v : V), DK H v d → d.canLay0 = true → Dp K H v d
  | .none, _, h, _ => by cases h; exact .non
  | .bool b, _, h, _ => by cases h; exact .bl b
  | .int i, _, h, _ => by cases h; exact .int i
  | .str x, _, h, _ => by cases h; exact .str x
  | .list ds, _, h, c => by
    cases h with
    | lst e r => exact .lst (.inl (.inl e)) (dks_dp K ds _ r (by simpa [PyData.canLay0] using c))
  | .tuple ds, _, h, c => by
    cases h with
    | tup e r => exact .tup (.inl (.inl e)) (dks_dp K ds _ r (by simpa [PyData.canLay0] using c))
  | .dict _, _, _, c => by simp [PyData.canLay0] at c
theorem dks_dp {H : Hp} (K : PySem.W.Frag) : ∀ (ds : List PyData) (vs : List V), DKs H vs ds → PyData.canLayAll0 ds = true → DpAll K H vs ds
  | [], _, h, _ => by cases h; exact .nil
  | d :: ds, _, h, c => by
    have c' : d.canLay0 = true ∧ PyData.canLayAll0 ds = true := by simpa [PyData.canLayAll0] using c
    cases h with
    | cons h1 h2 => exact .cons (dk_dp K d _ h1 c'.1) (dks_dp K ds _ h2 c'.2)
end
def spPick : Sp := fun vs H Q _ => ∃ (dk dl s : Addr) (t : Int) (xs : List V), vs = [.ref dk, .ref s] ∧ DeckAt H dk dl t ∧ s ≠ dl ∧ H s = some (.lst xs) ∧ xs ≠ [] ∧ xs.length ≤ 100 ∧ 0 ≤ t ∧ t ≤ 100000 ∧
  ∀ (y : V) (H' : Hp), y ∈ xs → DeckAt H' dk dl (t + 1) → Keep dk dl H H' → Q y H'
structure TxtP (K : PySem.W.Frag) (mg : Str → Option Value) (fD fP : Addr) : Prop extends TxtD mg where
  len : mg "len" = none
  gD : mg "_law_draw" = some (.ref fD)
  kD : PySem.W.keepIn K (.ref fD) = true
  gP : mg "_law_pick" = some (.ref fP)
  kP : PySem.W.keepIn K (.ref fP) = true
/-- a need of a kind of m parts, the kinds of one part being ss -/
def NeedOk (m : Int) (ss : List Str) (d : PyData) : Prop :=
  (∃ j : Int, 0 ≤ j ∧ j < m ∧ d = .tuple [.str (PySem.Str.ofString "part"), .int j]) ∨
  (∃ (c : Str) (j : Int), c ∈ ss ∧ 0 ≤ j ∧ j < m ∧ d = .tuple [.str (PySem.Str.ofString "around"), .str c, .int j]) ∨
  ∃ (c : Str) (j : Int), c ∈ ss ∧ 0 ≤ j ∧ j < m ∧ d = .tuple [.str (PySem.Str.ofString "inside"), .int j, .str c]
def spNeed : Sp := fun vs H Q _ => ∃ (dk dl s : Addr) (t m : Int) (ss : List Str), vs = [.ref dk, .ref s, .int m] ∧ DeckAt H dk dl t ∧ s ≠ dl ∧ H s = some (.lst (ss.map V.str)) ∧ ss.length ≤ 8 ∧ 1 ≤ m ∧ m ≤ 3 ∧ (∀ x ∈ ss, PyData.strOk x = true) ∧ 0 ≤ t ∧ t ≤ 90000 ∧
  ∀ (v : V) (d : PyData) (t' : Int) (H' : Hp), DeckAt H' dk dl t' → t ≤ t' → t' ≤ t + 3 → Keep dk dl H H' → DK (Nw H H') v d → NeedOk m ss d → Q v H'
theorem strs_dp {H : Hp} {K : PySem.W.Frag} : ∀ cs : List Str, DpAll K H (cs.map V.str) (cs.map PyData.str)
  | [] => .nil
  | c :: cs => .cons (.str c) (strs_dp cs)
theorem strs_lay : ∀ cs : List Str, (∀ x ∈ cs, PyData.strOk x = true) → PyData.canLayAll0 (cs.map PyData.str) = true
  | [], _ => by simp [PyData.canLayAll0]
  | c :: cs, h => by
    simp only [List.map_cons, PyData.canLayAll0, PyData.canLay0, Bool.and_eq_true]
    exact ⟨h c (List.mem_cons_self ..), strs_lay cs fun x hx => h x (List.mem_cons_of_mem _ hx)⟩
theorem strs_dep : ∀ cs : List Str, PyData.depthAll (cs.map PyData.str) = 0
  | [] => by simp [PyData.depthAll]
  | c :: cs => by simp [PyData.depthAll, PyData.depth, strs_dep cs]
theorem strs_shaped {cs : List Str} (h : ∀ x ∈ cs, PyData.strOk x = true) : SeqAt.shaped (.list (cs.map PyData.str)) = true := by
  show (PyData.canLay0 (.list (cs.map PyData.str)) && decide (PyData.depth (.list (cs.map PyData.str)) ≤ 64)) = true
  rw [Bool.and_eq_true]
  refine ⟨by simp only [PyData.canLay0]; exact strs_lay cs h, decide_eq_true ?_⟩
  simp only [PyData.depth, strs_dep]
  decide
section
variable {P : Program} {w : World} {K : PySem.W.Frag} {mg : Str → Option Value} {base : Heap}
theorem scPick : FnScope ["_law_deck_here", "_law_some"] ["_law_deck_here", "_law_some"] (defScope sPick) := ⟨rfl, rfl, rfl, by decide +kernel, rfl, by decide +kernel, by decide +kernel⟩
theorem ok_pick {f fD : Addr} {fd fdD : FuncData} (F : Fun K "_law_pick" "_law_pick" sPick f fd) (GD : FnOk P w K mg base CX0 1 fD fdD ["_law_deck_here", "_law_below"] spDraw) (bD : Binds K fdD ["_law_deck_here", "_law_below"] []) (T : TxtP K mg fD f) :
    FnOk P w K mg base CX0 2 f fd ["_law_deck_here", "_law_some"] spPick := by
  refine F.ok scPick (fun vs H Q E h => ?_) (fun cdv A outer s H vs Q E hr h => ?_)
  · obtain ⟨dk, dl, p, t, xs, rfl, _⟩ := h
    rfl
  · obtain ⟨dk, dl, p, t, xs, rfl, hD, hpl, hp, hne, hx, t0, t1, k⟩ := h
    have hu := hu_of hr
    refine ⟨_, pss_one (ps_ret (pe_ix ix_list (pv 1) (pe_call GD hr rfl T.gD T.kD bD .nil pass0 (pa_cons (pv 0) (pa_cons (pe_callB call_len_seq (by rfl) T.len PySem.boot_len (pa_cons (pv 1) pa_nil)) pa_nil))) (fun _ _ => rfl))), ?_⟩
    have pos : 0 < xs.length := by
      cases xs with
      | nil => exact absurd rfl hne
      | cons _ _ => exact Nat.succ_pos _
    refine ⟨_, rfl, _, rfl, _, rfl, p, _, rfl, .inl (SqL.of hp), ?_⟩
    refine ⟨dk, dl, (xs.length : Int), t, rfl, hD, by omega, by omega, t0, t1, fun r H' r0 r1 D' K' => ?_⟩
    have np : p ≠ dk := by
      obtain ⟨⟨m, h1, _⟩, _⟩ := hD
      exact ne_of hp h1 (by intro z; cases z)
    obtain ⟨y, hy, ha⟩ := K05.pick r0 r1
    exact ⟨p, _, _, _, rfl, rfl, SqL.of (K' _ _ np hpl hp), ha, k y H' hy D' K'⟩
theorem scNeed : FnScope ["_law_deck_here", "_law_singles", "_law_many", "_law_way", "_law_j", "_law_c"] ["_law_deck_here", "_law_singles", "_law_many"] (defScope sNeed) := ⟨rfl, rfl, rfl, by decide +kernel, rfl, by decide +kernel, by decide +kernel⟩
theorem ok_need {f fD fP : Addr} {fd fdD fdP : FuncData} (F : Fun K "_law_need" "_law_need" sNeed f fd) (GD : FnOk P w K mg base CX0 1 fD fdD ["_law_deck_here", "_law_below"] spDraw) (bD : Binds K fdD ["_law_deck_here", "_law_below"] [])
    (GP : FnOk P w K mg base CX0 2 fP fdP ["_law_deck_here", "_law_some"] spPick) (bP : Binds K fdP ["_law_deck_here", "_law_some"] []) (T : TxtP K mg fD fP) : FnOk P w K mg base CX0 3 f fd ["_law_deck_here", "_law_singles", "_law_many"] spNeed := by
  refine F.ok scNeed (fun vs H Q E h => ?_) (fun cdv A outer s H vs Q E hr h => ?_)
  · obtain ⟨dk, dl, p, t, m, ss, rfl, _⟩ := h
    rfl
  · obtain ⟨dk, dl, p, t, m, ss, rfl, hD, hpl, hp, hss, m1, m3, sok, t0, t1, k⟩ := h
    have hu := hu_of hr
    have hr1 : Room 1 _ := hr.mono (by decide)
    have np : p ≠ dk := by
      obtain ⟨⟨m, h1, _⟩, _⟩ := hD
      exact ne_of hp h1 (by intro z; cases z)
    refine ⟨_, pss_cons (ps_par (i := 3) (j := 4) rfl scNeed.nd rfl rfl (by decide) rfl rfl (pa_cons (pe_call GD hr1 rfl T.gD T.kD bD .nil pass0 (pa_cons (pv 0) (pa_cons pe_int pa_nil))) (pa_cons (pe_call GD hr1 rfl T.gD T.kD bD .nil pass0 (pa_cons (pv 0) (pa_cons (pv 2) pa_nil))) pa_nil)) (by rfl))
      (pss_cons (ps_if (PW.pt (pw_or (pt_cmpR op_eq (pv 3) pe_int (nomark _)) (pw_or1 (pt_cmpR (op_eqD hr.units) (pv 1) (pe_lst pa_nil) (nomark _))))) (pss_one (ps_ret (pe_tup (pa_cons pe_str (pa_cons (pv 4) pa_nil))))) pss_nil)
      (pss_cons (ps_set (i := 5) scNeed.nd rfl (.inl rfl) (pe_call GP hr rfl T.gP T.kP bP .nil pass0 (pa_cons (pv 0) (pa_cons (pv 1) pa_nil))))
      (pss_one (ps_ret (pe_ifExp (pt_cmpR op_eq (pv 3) pe_int (nomark _)) (pe_tup (pa_cons pe_str (pa_cons (pv 5) (pa_cons (pv 4) pa_nil)))) (pe_tup (pa_cons pe_str (pa_cons (pv 4) (pa_cons (pv 5) pa_nil)))))))) ), ?_⟩
    refine ⟨_, rfl, dk, dl, 3, t, rfl, hD, by decide, by decide, t0, by omega, fun way H1 w0 w1 D1 K1 => ⟨_, rfl, _, rfl, dk, dl, m, t + 1, rfl, D1, m1, by omega, by omega, by omega, fun j H2 j0 j1 D2 K2 => ⟨_, _, rfl, ?_⟩⟩⟩
    have K02 := K1.trans K2
    have hp2 := K02 _ _ np hpl hp
    -- the answer «part»
    have part : ∀ H3 q, DeckAt H3 dk dl (t + 1 + 1) → Keep dk dl H H3 → H3 q = none → Q (.ref q) (upd H3 q (.tup [.str (PySem.Str.ofString "part"), .int j])) := fun H3 q D3 K3 hq =>
      k (.ref q) _ (t + 1 + 1) _ (D3.new hq) (by omega) (by omega) (K3.new hq) (.tup (Nw.at (hD.dom D3 K3 q hq) upd_same) (.cons (.str _) (.cons (.int _) .nil))) (.inl ⟨j, j0, j1, rfl⟩)
    refine ⟨_, rfl, rfl, _, rfl, ite2 (fun hw => ?_) (fun hw => ?_)⟩
    · refine ite2 (fun _ => ?_) (fun z => absurd rfl z)
      exact ⟨_, rfl, (by show 2 ≤ sizeLine; rw [sizeLine_eq]; decide), fun q hq => part H2 q D2 K02 hq⟩
    · refine ⟨_, rfl, (by show 0 ≤ sizeLine; exact Nat.zero_le _), fun e he => ?_⟩
      have kE : Keep dk dl H2 (upd H2 e (.lst [])) := Keep.refl.new he
      have hpE := kE _ _ np hpl hp2
      refine ⟨_, _, .lst (SqL.of hpE) (strs_dp ss), .lst (SqL.of upd_same) .nil, strs_shaped sok, rfl, _, rfl, ?_⟩
      cases ss with
      | nil =>
        refine ite2 (fun _ => ?_) (fun z => absurd rfl z)
        exact ⟨_, rfl, (by show 2 ≤ sizeLine; rw [sizeLine_eq]; decide), fun q hq => part _ q (D2.new he) (K02.trans kE) hq⟩
      | cons c0 cr =>
        refine ite2 (fun z => absurd z (by simp [PyData.eqv, PyData.eqvAll])) (fun _ => ?_)
        refine ⟨_, rfl, _, rfl, dk, dl, p, t + 1 + 1, _, rfl, D2.new he, hpl, hpE, by simp, by rw [List.length_map]; omega, by omega, by omega, fun y H4 hy D4 K4 => ?_⟩
        obtain ⟨c, hc, rfl⟩ := List.mem_map.mp hy
        have K04 := (K02.trans kE).trans K4
        refine ⟨_, rfl, rfl, _, rfl, ite2 (fun _ => ?_) (fun _ => ?_)⟩
        · refine ⟨_, rfl, _, rfl, (by show 3 ≤ sizeLine; rw [sizeLine_eq]; decide), fun q hq => ?_⟩
          exact k (.ref q) _ (t + 1 + 1 + 1) _ (D4.new hq) (by omega) (by omega) (K04.new hq) (.tup (Nw.at (hD.dom D4 K04 q hq) upd_same) (.cons (.str _) (.cons (.str _) (.cons (.int _) .nil)))) (.inr (.inl ⟨c, j, hc, j0, j1, rfl⟩))
        · refine ⟨_, rfl, _, rfl, (by show 3 ≤ sizeLine; rw [sizeLine_eq]; decide), fun q hq => ?_⟩
          exact k (.ref q) _ (t + 1 + 1 + 1) _ (D4.new hq) (by omega) (by omega) (K04.new hq) (.tup (Nw.at (hD.dom D4 K04 q hq) upd_same) (.cons (.str _) (.cons (.int _) (.cons (.str _) .nil)))) (.inr (.inr ⟨c, j, hc, j0, j1, rfl⟩))
end
end K05

set_option Elab.async false
set_option linter.all false
set_option maxRecDepth 100000
set_option maxHeartbeats 4000000
/-! The kinds and openings of a drawn book. -/
namespace K05
open PySem PySem.Spec PyProof.Rows L2 Mine
abbrev sKit : Stmt := top 35
/-- a list at p that grows, all else but the deck standing -/
structure LI (dk dl p : Addr) (H0 H' : Hp) (vs : List V) (ds : List PyData) : Prop where
  at_ : H' p = some (.lst vs)
  ok : DKs (Nw H0 H') vs ds
  keep : ∀ b x, b ≠ dk → b ≠ dl → b ≠ p → H0 b = some x → H' b = some x
theorem LI.step {dk dl p : Addr} {H0 H' H'' : Hp} {vs : List V} {ds : List PyData} {t : Int} (I : LI dk dl p H0 H' vs ds) (D : DeckAt H0 dk dl t) (h1 : p ≠ dk) (h2 : p ≠ dl) (k : Keep dk dl H' H'') : LI dk dl p H0 H'' vs ds :=
  ⟨k _ _ h1 h2 I.at_, DKs.keeps (Nw.mono (fun _ z => z) (k.news D)) _ _ I.ok, fun b x a1 a2 a3 e => k b x a1 a2 (I.keep b x a1 a2 a3 e)⟩
theorem LI.add {dk dl p : Addr} {H0 H' : Hp} {vs : List V} {ds : List PyData} {v : V} {d : PyData} (I : LI dk dl p H0 H' vs ds) (hp : H0 p ≠ none) (h : DK (Nw H0 H') v d) : LI dk dl p H0 (upd H' p (.lst (vs ++ [v]))) (vs ++ [v]) (ds ++ [d]) := by
  have k : ∀ b o, H0 b = none → H' b = some o → upd H' p (.lst (vs ++ [v])) b = some o := fun b o n e => (upd_ne (fun z => hp (by rw [← z]; exact n))).trans e
  exact ⟨upd_same, (DKs.keeps (Nw.mono (fun _ z => z) k) _ _ I.ok).snoc' (DK.keeps (Nw.mono (fun _ z => z) k) _ _ h), fun b x a1 a2 a3 e => (upd_ne a3).trans (I.keep b x a1 a2 a3 e)⟩
/-- what is new beside H0 is new -/
theorem LI.dom {dk dl p : Addr} {H0 H' : Hp} {vs : List V} {ds : List PyData} {t t' : Int} (I : LI dk dl p H0 H' vs ds) (D : DeckAt H0 dk dl t) (D' : DeckAt H' dk dl t') : ∀ b, H' b = none → H0 b = none := fun b e => by
  cases z : H0 b with
  | none => rfl
  | some o =>
    by_cases e1 : b = dk
    · obtain ⟨⟨m, h1, _⟩, _⟩ := D'
      rw [e1, h1] at e
      cases e
    · by_cases e2 : b = dl
      · obtain ⟨_, ⟨cs, h2, _⟩⟩ := D'
        rw [e2, h2] at e
        cases e
      · by_cases e3 : b = p
        · rw [e3, I.at_] at e
          cases e
        · rw [I.keep b o e1 e2 e3 z] at e
          cases e
def W8 : List Str := [PySem.Str.ofString "box", PySem.Str.ofString "half", PySem.Str.ofString "lock", PySem.Str.ofString "mark", PySem.Str.ofString "pair", PySem.Str.ofString "q", PySem.Str.ofString "seal", PySem.Str.ofString "zzzzzzzz"]
def W6 : List Str := [PySem.Str.ofString "ahead", PySem.Str.ofString "first", PySem.Str.ofString "look", PySem.Str.ofString "open", PySem.Str.ofString "second", PySem.Str.ofString "undo"]
def kD (p : Str × Int) : PyData := .tuple [.str p.1, .int p.2]
structure Op where
  w : Str
  k : Str
  g : Int
  n : List PyData
def oD (o : Op) : PyData := .tuple [.str o.w, .str o.k, .int o.g, .tuple o.n]
def singles (ks : List (Str × Int)) : List Str := (ks.filter fun p => decide (p.2 = 1)).map (·.1)
structure OpOk (ks : List (Str × Int)) (o : Op) : Prop where
  ex : ∃ m : Int, (o.k, m) ∈ ks ∧ 0 ≤ o.g ∧ o.g < m ∧ o.n.length ≤ 2 ∧ ∀ d ∈ o.n, NeedOk m (singles ks) d
structure KitOk (ks : List (Str × Int)) (os : List Op) : Prop where
  ne : ks ≠ []
  sub : (ks.map (·.1)).Sublist W8
  num : ∀ p ∈ ks, 1 ≤ p.2 ∧ p.2 ≤ 3
  osub : (os.map (·.w)).Sublist W6
  ops : ∀ o ∈ os, OpOk ks o
def spKit : Sp := fun vs H Q _ => ∃ (dk dl : Addr) (t : Int), vs = [.ref dk] ∧ DeckAt H dk dl t ∧ 0 ≤ t ∧ t ≤ 50000 ∧
  ∀ (r p1 p2 : Addr) (vs ws : List V) (ks : List (Str × Int)) (os : List Op) (t' : Int) (H' : Hp), DeckAt H' dk dl t' → t ≤ t' → t' ≤ t + 100 → Keep dk dl H H' → H r = none → H p1 = none → H p2 = none →
    H' r = some (.tup [.ref p1, .ref p2]) → Fz H' p1 vs → H' p2 = some (.tup ws) → DKs (Nw H H') vs (ks.map kD) → DKs (Nw H H') ws (os.map oD) → KitOk ks os → Q (.ref r) H'
structure TxtK (K : PySem.W.Frag) (mg : Str → Option Value) (fD fP fN : Addr) : Prop extends TxtP K mg fD fP where
  range : mg "range" = none
  tuple : mg "tuple" = none
  gN : mg "_law_need" = some (.ref fN)
  kN : PySem.W.keepIn K (.ref fN) = true
theorem w8_ok : ∀ x ∈ W8, PyData.strOk x = true := by decide +kernel
theorem sub_w8 {ks : List (Str × Int)} (h : (ks.map (·.1)).Sublist W8) : ∀ p ∈ ks, PyData.strOk p.1 = true := fun p hp => w8_ok _ (h.subset (List.mem_map_of_mem hp))

theorem DeckAt.set {dk dl p : Addr} {H : Hp} {t : Int} {o : HO} (h : DeckAt H dk dl t) (h1 : p ≠ dk) (h2 : p ≠ dl) : DeckAt (upd H p o) dk dl t := by
  obtain ⟨⟨m, x1, m0, m1⟩, ⟨cs, x2, l⟩⟩ := h
  exact ⟨⟨m, (upd_ne h1.symm).trans x1, m0, m1⟩, ⟨cs, (upd_ne h2.symm).trans x2, l⟩⟩
theorem LI.keepOf {dk dl p : Addr} {H H0 H' : Hp} {vs : List V} {ds : List PyData} (I : LI dk dl p H0 H' vs ds) (k : Keep dk dl H H0) (hp : H p = none) : Keep dk dl H H' := fun b o h1 h2 e =>
  I.keep b o h1 h2 (fun z => by rw [z, hp] at e; cases e) (k b o h1 h2 e)
theorem dks_at {H : Hp} : ∀ {vs : List V} {ds : List PyData} {i : Nat} {v : V}, DKs H vs ds → vs[i]? = some v → ∃ d, ds[i]? = some d ∧ DK H v d
  | _, _, 0, v, .cons h _, e => ⟨_, rfl, by cases e; exact h⟩
  | _, _, i + 1, v, .cons _ r, e => by
    obtain ⟨d, e1, h1⟩ := dks_at r (i := i) e
    exact ⟨d, e1, h1⟩
theorem dks_mem {H : Hp} {vs : List V} {ds : List PyData} {v : V} (r : DKs H vs ds) (h : v ∈ vs) : ∃ d, d ∈ ds ∧ DK H v d := by
  obtain ⟨i, e⟩ := List.getElem?_of_mem h
  obtain ⟨d, e1, h1⟩ := dks_at r e
  exact ⟨d, List.mem_of_getElem? e1, h1⟩
theorem nw_some {H H' : Hp} : ∀ b o, Nw H H' b = some o → H' b = some o := fun _ _ e => (Nw.of e).2
theorem kd_of {H : Hp} {v : V} {p : Str × Int} (h : DK H v (kD p)) : ∃ a, v = .ref a ∧ H a = some (.tup [.str p.1, .int p.2]) := by
  cases h with
  | tup e r =>
    cases r with
    | cons h1 r =>
      cases r with
      | cons h2 r =>
        cases r
        cases h1
        cases h2
        exact ⟨_, rfl, e⟩
theorem kds_keeps {H H' : Hp} (k : ∀ a x, H a = some (.tup x) → H' a = some (.tup x)) : ∀ (ks : List (Str × Int)) (vs : List V), DKs H vs (ks.map kD) → DKs H' vs (ks.map kD)
  | [], _, h => by cases h; exact .nil
  | c :: cs, _, h => by
    cases h with
    | cons h1 h2 =>
      obtain ⟨a, rfl, e⟩ := kd_of h1
      exact .cons (.tup (k _ _ e) (.cons (.str _) (.cons (.int _) .nil))) (kds_keeps k cs _ h2)
theorem singles_yes {ks : List (Str × Int)} {i : Nat} {p : Str × Int} (h : ks[i]? = some p) (e : p.2 = 1) : singles (ks.take (i + 1)) = singles (ks.take i) ++ [p.1] := by
  unfold singles
  rw [List.take_add_one, h, List.filter_append, List.map_append]
  simp [e]
theorem singles_no {ks : List (Str × Int)} {i : Nat} {p : Str × Int} (h : ks[i]? = some p) (e : p.2 ≠ 1) : singles (ks.take (i + 1)) = singles (ks.take i) := by
  unfold singles
  rw [List.take_add_one, h, List.filter_append, List.map_append]
  simp [e]
theorem singles_len (ks : List (Str × Int)) : (singles ks).length ≤ ks.length := by
  unfold singles
  rw [List.length_map]
  exact List.length_filter_le _ _
theorem singles_mem {ks : List (Str × Int)} {c : Str} (h : c ∈ singles ks) : (c, (1 : Int)) ∈ ks := by
  unfold singles at h
  obtain ⟨p, hp, rfl⟩ := List.mem_map.mp h
  obtain ⟨h1, h2⟩ := List.mem_filter.mp hp
  have := of_decide_eq_true h2
  rw [← this]
  exact h1
theorem kds_lay : ∀ ks : List (Str × Int), (∀ p ∈ ks, PyData.strOk p.1 = true) → PyData.canLayAll0 (ks.map kD) = true
  | [], _ => by simp [PyData.canLayAll0]
  | c :: cs, h => by
    simp only [List.map_cons, PyData.canLayAll0, PyData.canLay0, Bool.and_eq_true, kD]
    exact ⟨⟨h c (List.mem_cons_self ..), trivial, trivial⟩, kds_lay cs fun x hx => h x (List.mem_cons_of_mem _ hx)⟩
theorem kds_dep : ∀ ks : List (Str × Int), PyData.depthAll (ks.map kD) ≤ 1
  | [] => by simp [PyData.depthAll]
  | c :: cs => by
    have := kds_dep cs
    simp only [List.map_cons, PyData.depthAll, PyData.depth, kD]
    omega
theorem kds_shaped {ks : List (Str × Int)} (h : ∀ p ∈ ks, PyData.strOk p.1 = true) : SeqAt.shaped (.list (ks.map kD)) = true := by
  show (PyData.canLay0 (.list (ks.map kD)) && decide (PyData.depth (.list (ks.map kD)) ≤ 64)) = true
  rw [Bool.and_eq_true]
  refine ⟨by simp only [PyData.canLay0]; exact kds_lay ks h, decide_eq_true ?_⟩
  have := kds_dep ks
  simp only [PyData.depth]
  omega
/-- the kinds of the book as they stand once drawn -/
structure Kinds (dk dl : Addr) (H H2 : Hp) (pk : Addr) (vs : List V) (ks : List (Str × Int)) : Prop where
  at_ : H2 pk = some (.lst vs)
  off : H pk = none
  ok : DKs (Nw H H2) vs (ks.map kD)
  ne : ks ≠ []
  sub : (ks.map (·.1)).Sublist W8
  num : ∀ p ∈ ks, 1 ≤ p.2 ∧ p.2 ≤ 3
theorem half_sub : ([((PySem.Str.ofString "half" : Str), (1 : Int))].map (·.1)).Sublist W8 := by
  unfold W8
  exact .cons _ (.cons₂ _ (.cons _ (.cons _ (.cons _ (.cons _ (.cons _ (.cons _ .slnil)))))))
theorem fallback {K : PySem.W.Frag} {dk dl p : Addr} {H H' : Hp} {t tz : Int} {vs : List V} {ks : List (Str × Int)} {σ : L2.St} {G : V → Hp → Prop} (hD : DeckAt H dk dl tz) (hp : H p = none) (e : H' p = some (.lst vs)) (ok : DKs (Nw H H') vs (ks.map kD)) (D' : DeckAt H' dk dl t) (k' : Keep dk dl H H')
    (sub : (ks.map (·.1)).Sublist W8) (num : ∀ p ∈ ks, 1 ≤ p.2 ∧ p.2 ≤ 3) (hσ : σ[1]? = some (some (V.ref p)))
    (h : ∀ pk vs ks H2, Kinds dk dl H H2 pk vs ks → DeckAt H2 dk dl t → Keep dk dl H' H2 → G (.ref pk) H2) :
    tIf (tTest (tOp (rNeD K) (tVar 1) (tLst tNil))) (tVar 1) (tLst (tCons (tTup (tCons (tC (.str (PySem.Str.ofString "half"))) (tCons (tC (.int 1)) tNil))) tNil)) σ H' G := by
  refine ⟨_, hσ, (by show 0 ≤ sizeLine; exact Nat.zero_le _), fun q hq => ?_⟩
  have e1 : upd H' q (.lst []) p = some (.lst vs) := (upd_ne (ne_of_none e hq)).trans e
  have kq : Keep dk dl H' (upd H' q (.lst [])) := Keep.refl.new hq
  have ok1 : DKs (Nw H (upd H' q (.lst []))) vs (ks.map kD) := DKs.keeps (Nw.mono (fun _ z => z) (kq.news hD)) _ _ ok
  refine ⟨_, _, .lst (SqL.of e1) (dks_dp K _ _ (DKs.keeps nw_some _ _ ok1) (kds_lay ks (sub_w8 sub))), .lst (SqL.of upd_same) .nil, kds_shaped (sub_w8 sub), rfl, _, rfl, ?_⟩
  cases ks with
  | nil =>
    refine ite2 (fun z => absurd z (by simp [PyData.eqv, PyData.eqvAll])) (fun _ => ?_)
    refine ⟨(by show 2 ≤ sizeLine; rw [sizeLine_eq]; decide), fun a ha => ⟨(by show 1 ≤ sizeLine; rw [sizeLine_eq]; decide), fun b hb => ?_⟩⟩
    have Da : DeckAt (upd (upd H' q (.lst [])) a (.tup [.str (PySem.Str.ofString "half"), .int 1])) dk dl t := (D'.new hq).new ha
    have Ka := (kq.new ha : Keep dk dl H' (upd (upd H' q (.lst [])) a (.tup [.str (PySem.Str.ofString "half"), .int 1])))
    have na : H a = none := hD.dom (D'.new hq) (k'.trans kq) a ha
    have nb : H b = none := hD.dom Da (k'.trans Ka) b hb
    refine h b [.ref a] [((PySem.Str.ofString "half" : Str), (1 : Int))] _ ⟨upd_same, nb, ?_, List.cons_ne_nil _ _, half_sub, fun p hp => by simp only [List.mem_cons, List.not_mem_nil, or_false] at hp; subst hp; decide⟩ (Da.new hb) (Ka.new hb)
    exact .cons (.tup (Nw.at na ((upd_ne (ne_of_none upd_same hb)).trans upd_same)) (.cons (.str _) (.cons (.int _) .nil))) .nil
  | cons c0 cr =>
    refine ite2 (fun _ => ?_) (fun z => absurd rfl z)
    exact ⟨_, hσ, h p vs (c0 :: cr) _ ⟨e1, hp, ok1, List.cons_ne_nil _ _, sub, num⟩ (D'.new hq) kq⟩
end K05

set_option Elab.async false
set_option linter.all false
set_option maxRecDepth 100000
set_option maxHeartbeats 4000000
/-! the kinds and openings of a drawn book -/
namespace K05
open PySem PySem.Spec PyProof.Rows L2 Mine
section
variable {P : Program} {w : World} {K : PySem.W.Frag} {mg : Str → Option Value} {base : Heap}
theorem scKit : FnScope ["_law_deck_here", "_law_makes", "_law_taking", "_law_word", "_law_many", "_law_singles", "_law_word_of", "_law_needs", "_law_go"] ["_law_deck_here"] (defScope sKit) := ⟨rfl, rfl, rfl, by decide +kernel, rfl, by decide +kernel, by decide +kernel⟩
theorem ok_kit {f fD fP fN : Addr} {fd fdD fdP fdN : FuncData} (F : Fun K "_law_kit" "_law_kit" sKit f fd) (GD : FnOk P w K mg base CX0 1 fD fdD ["_law_deck_here", "_law_below"] spDraw) (bD : Binds K fdD ["_law_deck_here", "_law_below"] [])
    (GP : FnOk P w K mg base CX0 2 fP fdP ["_law_deck_here", "_law_some"] spPick) (bP : Binds K fdP ["_law_deck_here", "_law_some"] []) (GN : FnOk P w K mg base CX0 3 fN fdN ["_law_deck_here", "_law_singles", "_law_many"] spNeed) (bN : Binds K fdN ["_law_deck_here", "_law_singles", "_law_many"] [])
    (T : TxtK K mg fD fP fN) : FnOk P w K mg base CX0 4 f fd ["_law_deck_here"] spKit := by
  refine F.ok scKit (fun vs H Q E h => ?_) (fun cdv A outer s H vs Q E hr h => ?_)
  · obtain ⟨dk, dl, t, rfl, _⟩ := h
    rfl
  · obtain ⟨dk, dl, t, rfl, hD, t0, t1, k⟩ := h
    have hu := hu_of hr
    have hr1 : Room 1 _ := hr.mono (by decide)
    have hr2 : Room 2 _ := hr.mono (by decide)
    refine ⟨_, pss_cons (ps_par (i := 1) (j := 2) rfl scKit.nd rfl rfl (by decide) rfl rfl (pa_cons (pe_lst pa_nil) (pa_cons (pe_lst pa_nil) pa_nil)) (by rfl))
      (pss_cons (ps_for PassesOwn.never rfl (pi_list (pe_lst (pa_cons pe_str (pa_cons pe_str (pa_cons pe_str (pa_cons pe_str (pa_cons pe_str (pa_cons pe_str (pa_cons pe_str (pa_cons pe_str pa_nil)))))))))) (pg_name (i := 3) scKit.nd rfl (.inl rfl))
        (pss_one (ps_if (pt_cmpR op_eq (pe_call GD hr1 rfl T.gD T.kD bD .nil pass0 (pa_cons (pv 0) (pa_cons pe_int pa_nil))) pe_int (nomark _))
          (pss_one (ps_expr (pe_bm PySem.F.plainAttrs_list PySem.F.slot_list_append PySem.F.type_list_append mt_append (pv 1) (pa_cons (pe_tup (pa_cons (pv 3) (pa_cons (pe_op op_add pe_int (pe_call GD hr1 rfl T.gD T.kD bD .nil pass0 (pa_cons (pv 0) (pa_cons pe_int pa_nil)))) pa_nil))) pa_nil)))) pss_nil)))
      (pss_cons (ps_set (i := 1) scKit.nd rfl (.inl rfl) (pe_ifExp (pt_cmpR (op_neD hr.units) (pv 1) (pe_lst pa_nil) (nomark _)) (pv 1) (pe_lst (pa_cons (pe_tup (pa_cons pe_str (pa_cons pe_int pa_nil))) pa_nil))))
      (pss_cons (ps_set (i := 5) scKit.nd rfl (.inr rfl) (pe_lc (own := [("_law_word", 3), ("_law_many", 4)]) (g := gTup K 2 (gCons (gName 3) (gCons (gName 4) gNil))) rfl scKit.nd (pi_list (pv 1))
        (blkOk_by (own := [("_law_word", 3), ("_law_many", 4)]) (N := ["_law_deck_here", "_law_makes", "_law_taking", "_law_word", "_law_many", "_law_singles", "_law_word_of", "_law_needs", "_law_go"]) (sc := defScope sKit) (by decide +kernel))
        (fun _ _ _ _ _ => pg_tup rfl (pgs_cons (pg_name (i := 3) scKit.nd rfl (Or.inl rfl)) (pgs_cons (pg_name (i := 4) scKit.nd rfl (Or.inl rfl)) pgs_nil))) (fun _ _ _ _ _ => pts_one (pt_cmpR op_eq (pv 4) pe_int (nomark _))) (fun _ _ _ _ _ => pv 3)))
      (pss_cons (ps_for PassesOwn.never rfl (pi_list (pe_lst (pa_cons pe_str (pa_cons pe_str (pa_cons pe_str (pa_cons pe_str (pa_cons pe_str (pa_cons pe_str pa_nil)))))))) (pg_name (i := 3) scKit.nd rfl (.inl rfl))
        (pss_one (ps_if (pt_cmpR op_eq (pe_call GD hr1 rfl T.gD T.kD bD .nil pass0 (pa_cons (pv 0) (pa_cons pe_int pa_nil))) pe_int (nomark _))
          (pss_cons (ps_asg (pe_call GP hr2 rfl T.gP T.kP bP .nil pass0 (pa_cons (pv 0) (pa_cons (pv 1) pa_nil))) (pg_tup rfl (pgs_cons (pg_name (i := 6) scKit.nd rfl (.inl rfl)) (pgs_cons (pg_name (i := 4) scKit.nd rfl (.inr rfl)) pgs_nil))))
          (pss_cons (ps_set (i := 7) scKit.nd rfl (.inl rfl) (pe_callTy call_tuple_of (by rfl) T.tuple (by decide +kernel) (pa_cons (pe_lc (own := [("_law_go", 8)]) (g := gName 8) (tt := tYes) rfl scKit.nd (pi_range1 rfl T.range (pa_cons (pe_call GD hr1 rfl T.gD T.kD bD .nil pass0 (pa_cons (pv 0) (pa_cons pe_int pa_nil))) pa_nil))
            (blkOk_by (own := [("_law_go", 8)]) (N := ["_law_deck_here", "_law_makes", "_law_taking", "_law_word", "_law_many", "_law_singles", "_law_word_of", "_law_needs", "_law_go"]) (sc := defScope sKit) (by decide +kernel))
            (fun _ _ _ _ _ => pg_name (i := 8) scKit.nd rfl (Or.inl rfl)) (fun _ _ _ _ _ => pts_nil) (fun _ _ _ _ _ => pe_call GN hr rfl T.gN T.kN bN .nil pass0 (pa_cons (pv 0) (pa_cons (pv 5) (pa_cons (pv 4) pa_nil))))) pa_nil)))
          (pss_one (ps_expr (pe_bm PySem.F.plainAttrs_list PySem.F.slot_list_append PySem.F.type_list_append mt_append (pv 2) (pa_cons (pe_tup (pa_cons (pv 3) (pa_cons (pv 6) (pa_cons (pe_call GD hr1 rfl T.gD T.kD bD .nil pass0 (pa_cons (pv 0) (pa_cons (pv 4) pa_nil))) (pa_cons (pv 7) pa_nil))))) pa_nil)))))) pss_nil)))
      (pss_one (ps_ret (pe_tup (pa_cons (pe_callTy call_tupleF (by rfl) T.tuple (by decide +kernel) (pa_cons (pv 1) pa_nil)) (pa_cons (pe_callTy call_tuple_of (by rfl) T.tuple (by decide +kernel) (pa_cons (pv 2) pa_nil)) pa_nil))))))))), ?_⟩
    refine ⟨Nat.zero_le _, fun pm em => ⟨Nat.zero_le _, fun pt et => ⟨_, _, rfl, ?_⟩⟩⟩
    refine ⟨(by show 8 ≤ sizeLine; rw [sizeLine_eq]; decide), fun pl el => ⟨pl, rfl, ⟨_, SqL.of upd_same⟩, ?_⟩⟩
    have m1 : upd H pm (.lst []) pm = some (.lst []) := upd_same
    have m2 := (upd_ne (o := .lst []) (ne_of_none m1 et)).trans m1
    have m3 := (upd_ne (o := .lst (W8.map V.str)) (ne_of_none m2 el)).trans m2
    have n2 : upd (upd H pm (.lst [])) pt (.lst []) pt = some (.lst []) := upd_same
    have n3 := (upd_ne (o := .lst (W8.map V.str)) (ne_of_none n2 el)).trans n2
    have l3 : upd (upd (upd H pm (.lst [])) pt (.lst [])) pl (.lst (W8.map V.str)) pl = some (.lst (W8.map V.str)) := upd_same
    have hnt : H pt = none := hD.dom (hD.new em) (Keep.refl.new em) pt et
    have hnl : H pl = none := hD.dom ((hD.new em).new et) ((Keep.refl.new em).new et) pl el
    have D0 := ((hD.new em).new et).new (o := .lst (W8.map V.str)) el
    have K0 : Keep dk dl H _ := ((Keep.refl.new em).new et).new (o := .lst (W8.map V.str)) el
    have nmt : pm ≠ pt := ne_of_none m1 et
    have nml : pm ≠ pl := ne_of_none m2 el
    have ntl : pt ≠ pl := ne_of_none n2 el
    show ∃ W : Nat → Nat → L2.St → Hp → Prop, (∃ m, W 0 m _ (upd (upd (upd H pm (.lst [])) pt (.lst [])) pl (.lst (W8.map V.str)))) ∧ _
    generalize upd (upd (upd H pm (.lst [])) pt (.lst [])) pl (.lst (W8.map V.str)) = H0 at m3 n3 l3 D0 K0
    have om := hD.off em
    have ot := hD.off hnt
    have ol := hD.off hnl
    refine for_list (K := K) (a := pl) (xs := W8.map V.str) (fun i σ H' => ∃ (vs : List V) (ks : List (Str × Int)) (t' : Int) (o3 : Option V), σ = [some (.ref dk), some (.ref pm), some (.ref pt), o3, none, none, none, none, none] ∧ LI dk dl pm H0 H' vs (ks.map kD) ∧ (ks.map (·.1)).Sublist (W8.take i) ∧ (∀ p ∈ ks, 1 ≤ p.2 ∧ p.2 ≤ 3) ∧ vs.length ≤ i ∧ DeckAt H' dk dl t' ∧ t ≤ t' ∧ t' ≤ t + 2 * (i : Int))
      ⟨[], [], t, none, rfl, ⟨m3, .nil, fun _ _ _ _ _ e => e⟩, .slnil, fun _ z => (List.not_mem_nil z).elim, Nat.le_refl _, D0, by omega, by omega⟩ (fun i σ H' _ ⟨vs, ks, t', o3, _, I, _⟩ => SqL.of (I.keep _ _ ol.1 ol.2 nml.symm l3)) ?_ ?_
    · rintro i y σ H' hi ⟨vs, ks, t', o3, rfl, I, sub, num, len, D', ta, tb⟩
      rw [List.getElem?_map] at hi
      obtain ⟨wd, hw, rfl⟩ : ∃ wd, W8[i]? = some wd ∧ y = V.str wd := by
        cases e : W8[i]? with
        | none =>
          rw [e] at hi
          cases hi
        | some z =>
          rw [e] at hi
          exact ⟨z, rfl, (Option.some.inj hi).symm⟩
      have hi8 : i < 8 := (List.getElem?_eq_some_iff.mp hw).1
      have tk : W8.take (i + 1) = W8.take i ++ [wd] := by
        rw [List.take_add_one, hw]
        rfl
      refine ⟨_, rfl, dk, dl, 2, t', rfl, D', by decide, by decide, by omega, by omega, fun r H1 r0 r1 D1 K1 => ⟨rfl, _, rfl, ite2 (fun _ => ?_) (fun _ => ?_)⟩⟩
      · have I1 := I.step D0 om.1 om.2 K1
        refine ⟨_, rfl, .inl ⟨rfl, _, SqL.of I1.at_⟩, _, rfl, _, rfl, dk, dl, 3, t' + 1, rfl, D1, by decide, by decide, by omega, by omega, fun q H2 q0 q1 D2 K2 => ⟨_, _, rfl, rfl, (by show 2 ≤ sizeLine; rw [sizeLine_eq]; decide), fun a ha => ?_⟩⟩
        have I2 := I1.step D0 om.1 om.2 (K2.new (o := .tup [.str wd, .int (1 + q)]) ha)
        have na : H0 a = none := (I1.step D0 om.1 om.2 K2).dom D0 D2 a ha
        have I3 := I2.add (v := .ref a) (d := kD (wd, 1 + q)) (by rw [m3]; simp) (.tup (Nw.at na upd_same) (.cons (.str _) (.cons (.int _) .nil)))
        refine ⟨pm, _, _, rfl, rfl, I2.at_, (by rw [sizeLine_eq]; omega), vs ++ [.ref a], ks ++ [(wd, 1 + q)], t' + 1 + 1, _, rfl, ?_, ?_, ?_, by rw [List.length_append]; simp only [List.length_cons, List.length_nil]; omega, (D2.new ha).set om.1 om.2, by omega, by omega⟩
        · rw [List.map_append]
          exact I3
        · rw [List.map_append, tk]
          exact sub.append (.refl _)
        · intro p hp
          rcases List.mem_append.mp hp with hp | hp
          · exact num p hp
          · simp only [List.mem_cons, List.not_mem_nil, or_false] at hp
            subst hp
            show 1 ≤ 1 + q ∧ 1 + q ≤ 3
            omega
      · refine ⟨vs, ks, t' + 1, _, rfl, I.step D0 om.1 om.2 K1, ?_, num, by omega, D1, by omega, by omega⟩
        rw [tk]
        exact sub.trans (List.sublist_append_left _ _)
    · rintro σ H' ⟨vs, ks, t', o3, rfl, I, sub, num, len, D', ta, tb⟩
      have t16 : t' ≤ t + 16 := by
        have : ((W8.map V.str).length : Int) = 8 := rfl
        omega
      have sub8 : (ks.map (·.1)).Sublist W8 := sub.trans (List.take_sublist _ _)
      have dom0 : ∀ b, H0 b = none → H b = none := hD.dom D0 K0
      have ok0 : DKs (Nw H H') vs (ks.map kD) := DKs.keeps (Nw.mono dom0 (fun b o _ e => e)) _ _ I.ok
      have KH : Keep dk dl H H' := I.keepOf K0 em
      have ept : H' pt = some (.lst []) := I.keep _ _ ot.1 ot.2 nmt.symm n3
      refine fallback hD em I.at_ ok0 D' KH sub8 num rfl (fun pk vs ks H2 KK D2 K2 => ?_)
      have ept2 : H2 pt = some (.lst []) := K2 _ _ ot.1 ot.2 ept
      have hlen : vs.length = ks.length := by
        have := KK.ok.len
        rwa [List.length_map] at this
      have len8 : ks.length ≤ 8 := by
        have := KK.sub.length_le
        rw [List.length_map] at this
        exact this
      have hne : vs ≠ [] := fun z => KK.ne (List.length_eq_zero_iff.mp (by rw [← hlen, z]; rfl))
      have opk := hD.off KK.off
      have npk : pk ≠ pt := fun z => by
        have := KK.at_
        rw [z, ept2] at this
        exact hne (by cases this; rfl)
      have KH2 : Keep dk dl H H2 := KH.trans K2
      clear sub num len ok0 sub8 I
      refine ⟨_, rfl, pk, rfl, ⟨_, SqL.of KK.at_⟩, fun ps eS => ?_⟩
      refine lc_list (K := K) (a := pk) (xs := vs) (fun i H3 => H3 = upd H2 ps (.lst ((singles (ks.take i)).map V.str))) rfl (fun i H3 _ e => by rw [e]; exact SqL.of ((upd_ne (ne_of_none KK.at_ eS)).trans KK.at_)) ?_ ?_
      · rintro i y H3 hi rfl
        obtain ⟨d, e1, h1⟩ := dks_at KK.ok hi
        rw [List.getElem?_map] at e1
        obtain ⟨p, hp, rfl⟩ : ∃ p, ks[i]? = some p ∧ d = kD p := by
          cases e : ks[i]? with
          | none =>
            rw [e] at e1
            cases e1
          | some z =>
            rw [e] at e1
            exact ⟨z, rfl, (Option.some.inj e1).symm⟩
        obtain ⟨a, rfl, ha⟩ := kd_of h1
        have ha2 := nw_some _ _ ha
        have hlt : (singles (ks.take i)).length ≤ 8 := by
          have z1 := singles_len (ks.take i)
          have z2 : (ks.take i).length ≤ ks.length := by rw [List.length_take]; omega
          omega
        refine ⟨a, _, rfl, SqT.of ((upd_ne (ne_of_none ha2 eS)).trans ha2), rfl, _, _, rfl, _, _, rfl, rfl, rfl, _, rfl, rfl, _, rfl, ite2 (fun hb => ?_) (fun hb => ?_)⟩
        · have e2 : p.2 = 1 := by
            have := of_decide_eq_true hb
            injection this
          refine ⟨_, rfl, _, upd_same, by rw [List.length_map, sizeLine_eq]; omega, ?_⟩
          rw [upd_upd, singles_yes hp e2, List.map_append]
          rfl
        · have e2 : p.2 ≠ 1 := fun z => hb (by rw [z]; rfl)
          rw [singles_no hp e2]
      · rintro H3 rfl
        rw [List.take_of_length_le (by rw [hlen]; exact Nat.le_refl _)]
        have kS := D2.new (o := .lst ((singles ks).map V.str)) eS
        have KS : Keep dk dl H2 (upd H2 ps (.lst ((singles ks).map V.str))) := Keep.refl.new eS
        have s3 : upd H2 ps (.lst ((singles ks).map V.str)) ps = some (.lst ((singles ks).map V.str)) := upd_same
        have p3 := (upd_ne (o := .lst ((singles ks).map V.str)) (ne_of_none ept2 eS)).trans ept2
        have k3 := (upd_ne (o := .lst ((singles ks).map V.str)) (ne_of_none KK.at_ eS)).trans KK.at_
        have nS : H ps = none := hD.dom D2 KH2 ps eS
        refine ⟨(by show 6 ≤ sizeLine; rw [sizeLine_eq]; decide), fun pu eu => ⟨pu, rfl, ⟨_, SqL.of upd_same⟩, ?_⟩⟩
        have s4 := (upd_ne (o := .lst (W6.map V.str)) (ne_of_none s3 eu)).trans s3
        have p4 := (upd_ne (o := .lst (W6.map V.str)) (ne_of_none p3 eu)).trans p3
        have k4 := (upd_ne (o := .lst (W6.map V.str)) (ne_of_none k3 eu)).trans k3
        have u4 : upd (upd H2 ps (.lst ((singles ks).map V.str))) pu (.lst (W6.map V.str)) pu = some (.lst (W6.map V.str)) := upd_same
        have DB := kS.new (o := .lst (W6.map V.str)) eu
        have KB : Keep dk dl H2 (upd (upd H2 ps (.lst ((singles ks).map V.str))) pu (.lst (W6.map V.str))) := KS.new eu
        have nU : H pu = none := hD.dom kS (KH2.trans KS) pu eu
        have nsu : ps ≠ pu := ne_of_none s3 eu
        have nsp : ps ≠ pt := (ne_of_none ept2 eS).symm
        have nup : pu ≠ pt := (ne_of_none p3 eu).symm
        show ∃ W : Nat → Nat → L2.St → Hp → Prop, (∃ m, W 0 m _ (upd (upd H2 ps (.lst ((singles ks).map V.str))) pu (.lst (W6.map V.str)))) ∧ _
        generalize upd (upd H2 ps (.lst ((singles ks).map V.str))) pu (.lst (W6.map V.str)) = B at s4 p4 k4 u4 DB KB
        have KHB : Keep dk dl H B := KH2.trans KB
        have oS := hD.off nS
        have oU := hD.off nU
        have kB : ∀ a x, H a = none → H2 a = some (.tup x) → B a = some (.tup x) := fun a x z e => KB a _ (hD.off z).1 (hD.off z).2 e
        refine for_list (K := K) (a := pu) (xs := W6.map V.str) (fun i σ H' => ∃ (ws : List V) (os : List Op) (u : Int) (o3 o4 o6 o7 o8 : Option V), σ = [some (.ref dk), some (.ref pk), some (.ref pt), o3, o4, some (.ref ps), o6, o7, o8] ∧ LI dk dl pt B H' ws (os.map oD) ∧ (os.map (·.w)).Sublist (W6.take i) ∧ (∀ o ∈ os, OpOk ks o) ∧ ws.length ≤ i ∧ DeckAt H' dk dl u ∧ t' ≤ u ∧ u ≤ t' + 10 * (i : Int))
          ⟨[], [], t', _, _, _, _, _, rfl, ⟨p4, .nil, fun _ _ _ _ _ e => e⟩, .slnil, fun _ z => (List.not_mem_nil z).elim, Nat.le_refl _, DB, by omega, by omega⟩ (fun i σ H' _ ⟨_, _, _, _, _, _, _, _, _, I, _⟩ => SqL.of (I.keep _ _ oU.1 oU.2 nup u4)) ?_ ?_
        · rintro i y σ H' hi ⟨ws, os, u, o3, o4, o6, o7, o8, rfl, I, sub, oks, len, D', ta, tb⟩
          rw [List.getElem?_map] at hi
          obtain ⟨wd, hw, rfl⟩ : ∃ wd, W6[i]? = some wd ∧ y = V.str wd := by
            cases e : W6[i]? with
            | none =>
              rw [e] at hi
              cases hi
            | some z =>
              rw [e] at hi
              exact ⟨z, rfl, (Option.some.inj hi).symm⟩
          have hi6 : i < 6 := (List.getElem?_eq_some_iff.mp hw).1
          have tk : W6.take (i + 1) = W6.take i ++ [wd] := by
            rw [List.take_add_one, hw]
            rfl
          refine ⟨_, rfl, dk, dl, 2, u, rfl, D', by decide, by decide, by omega, by omega, fun r H1 r0 r1 D1 K1 => ⟨rfl, _, rfl, ite2 (fun _ => ?_) (fun _ => ?_)⟩⟩
          · have I1 := I.step DB ot.1 ot.2 K1
            refine ⟨_, rfl, _, rfl, dk, dl, pk, u + 1, vs, rfl, D1, opk.2, I1.keep _ _ opk.1 opk.2 npk k4, hne, by omega, by omega, by omega, fun y H5 hy D5 K5 => ?_⟩
            have I5 := I1.step DB ot.1 ot.2 K5
            obtain ⟨d, hd, h1⟩ := dks_mem KK.ok hy
            obtain ⟨⟨c, m⟩, hc, rfl⟩ := List.mem_map.mp hd
            obtain ⟨a, rfl, ha⟩ := kd_of h1
            obtain ⟨ha0, ha2⟩ := Nw.of ha
            have haB := kB _ _ ha0 ha2
            have nat : a ≠ pt := fun z => by
              rw [z, p4] at haB
              cases haB
            have ha5 := I5.keep _ _ (hD.off ha0).1 (hD.off ha0).2 nat haB
            have mb := KK.num _ hc
            refine ⟨a, _, rfl, SqT.of ha5, rfl, _, _, rfl, _, _, rfl, rfl, ?_⟩
            refine ⟨_, rfl, dk, dl, 3, u + 1 + 1, rfl, D5, by decide, by decide, by omega, by omega, fun q H6 q0 q1 D6 K6 => ⟨_, rfl, by omega, by omega, fun pn hn => ?_⟩⟩
            have I6 := I5.step DB ot.1 ot.2 K6
            have nB : B pn = none := I6.dom DB D6 pn hn
            have nn : H pn = none := hD.dom DB KHB pn nB
            have on := hD.off nn
            have Db := D6.new (o := .lst []) hn
            have Kb : Keep dk dl H6 (upd H6 pn (.lst [])) := Keep.refl.new hn
            have s6 : H6 ps = _ := I6.keep _ _ oS.1 oS.2 nsp s4
            have nps : ps ≠ pn := ne_of_none s6 hn
            have sb : upd H6 pn (.lst []) ps = _ := (upd_ne nps).trans s6
            refine lc_range (lo := 0) (n := q.toNat) (fun j H7 => ∃ (vn : List V) (ns : List PyData) (x : Int), LI dk dl pn (upd H6 pn (.lst [])) H7 vn ns ∧ (∀ d ∈ ns, NeedOk m (singles ks) d) ∧ vn.length = j ∧ DeckAt H7 dk dl x ∧ u + 3 ≤ x ∧ x ≤ u + 3 + 3 * (j : Int))
              ⟨[], [], u + 1 + 1 + 1, ⟨upd_same, .nil, fun _ _ _ _ _ e => e⟩, fun _ z => (List.not_mem_nil z).elim, rfl, Db, by omega, by omega⟩ ?_ ?_
            · rintro j H7 hj ⟨vn, ns, x, In, nok, nl, D7, xa, xb⟩
              refine ⟨rfl, ?_⟩
              unfold tYes
              dsimp only
              rw [if_pos rfl]
              have z1 := singles_len ks
              refine ⟨_, rfl, _, rfl, _, rfl, dk, dl, ps, x, m, singles ks, rfl, D7, oS.2, In.keep _ _ oS.1 oS.2 nps sb, by omega, mb.1, mb.2, fun c hc => sub_w8 KK.sub _ (singles_mem hc), by omega, by omega, fun v d x' H8 D8 xc xd K8 hv hd => ?_⟩
              have I8 := In.step Db on.1 on.2 K8
              have I9 := I8.add (by rw [upd_same]; simp) (DK.keeps (Nw.mono (In.dom Db D7) (fun b o _ e => e)) _ _ hv)
              refine ⟨vn, I8.at_, by rw [sizeLine_eq]; omega, _, _, x', I9, fun d' hd' => ?_, by rw [List.length_append, nl]; rfl, D8.set on.1 on.2, by omega, by omega⟩
              rcases List.mem_append.mp hd' with h | h
              · exact nok _ h
              · simp only [List.mem_cons, List.not_mem_nil, or_false] at h
                rw [h]
                exact hd
            · rintro H7 ⟨vn, ns, x, In, nok, nl, D7, xa, xb⟩
              refine ⟨pn, vn, rfl, .inl ⟨SqL.of In.at_, fun p7 e7 => ?_⟩⟩
              have K67 : Keep dk dl H6 H7 := In.keepOf Kb hn
              have I7 := I6.step DB ot.1 ot.2 (K67.new (o := .tup vn) e7)
              have D7' := D7.new (o := .tup vn) e7
              have n7 : B p7 = none := (I6.step DB ot.1 ot.2 K67).dom DB D7 p7 e7
              have n7b : upd H6 pn (.lst []) p7 = none := In.dom Db D7 p7 e7
              refine ⟨_, rfl, .inl ⟨rfl, _, SqL.of I7.at_⟩, _, rfl, _, rfl, _, rfl, _, rfl, dk, dl, m, x, rfl, D7', mb.1, by omega, by omega, by omega, fun g H9 g0 g1 D9 K9 => ⟨_, rfl, (by show 4 ≤ sizeLine; rw [sizeLine_eq]; decide), fun p9 e9 => ?_⟩⟩
              have K79 : Keep dk dl (upd H7 p7 (.tup vn)) (upd H9 p9 (.tup [.str wd, .str c, .int g, .ref p7])) := K9.new e9
              have I9 := I7.step DB ot.1 ot.2 K79
              have n9 : B p9 = none := (I7.step DB ot.1 ot.2 K9).dom DB D9 p9 e9
              have o7 := hD.off (hD.dom DB KHB p7 n7)
              have a7 : upd H9 p9 (.tup [.str wd, .str c, .int g, .ref p7]) p7 = some (.tup vn) := K79 _ _ o7.1 o7.2 upd_same
              have kn : DKs (Nw B (upd H9 p9 (.tup [.str wd, .str c, .int g, .ref p7]))) vn ns := DKs.keeps (Nw.mono (fun b z => by
                  by_cases y : b = pn
                  · rw [y]; exact nB
                  · exact I6.dom DB D6 b ((upd_ne y).symm.trans z)) (fun b o z e => K79 b o (Db.off z).1 (Db.off z).2 ((upd_ne (ne_of_none e e7)).trans e))) _ _ In.ok
              have nel : DK (Nw B (upd H9 p9 (.tup [.str wd, .str c, .int g, .ref p7]))) (.ref p9) (oD ⟨wd, c, g, ns⟩) := .tup (Nw.at n9 upd_same) (.cons (.str _) (.cons (.str _) (.cons (.int _) (.cons (.tup (Nw.at n7 a7) kn) .nil))))
              have IA := I9.add (by rw [p4]; simp) nel
              have nsl : ns.length ≤ 2 := by
                have := In.ok.len
                omega
              refine ⟨pt, _, _, rfl, rfl, I9.at_, (by rw [sizeLine_eq]; omega), ws ++ [.ref p9], os ++ [⟨wd, c, g, ns⟩], x + 1, _, _, _, _, _, rfl, ?_, ?_, ?_, by rw [List.length_append]; simp only [List.length_cons, List.length_nil]; omega, (D9.new e9).set ot.1 ot.2, by omega, by omega⟩
              · rw [List.map_append]
                exact IA
              · rw [List.map_append, tk]
                exact sub.append (.refl _)
              · intro o ho
                rcases List.mem_append.mp ho with h | h
                · exact oks _ h
                · simp only [List.mem_cons, List.not_mem_nil, or_false] at h
                  subst h
                  exact ⟨m, hc, g0, g1, nsl, nok⟩
          · refine ⟨ws, os, u + 1, _, _, _, _, _, rfl, I.step DB ot.1 ot.2 K1, ?_, oks, by omega, D1, by omega, by omega⟩
            rw [tk]
            exact sub.trans (List.sublist_append_left _ _)
        · rintro σ H' ⟨ws, os, u, o3, o4, o6, o7, o8, rfl, I, sub, oks, len, D', ta, tb⟩
          have o6 : ((W6.map V.str).length : Int) = 6 := rfl
          have KF : Keep dk dl H H' := I.keepOf KHB hnt
          refine ⟨_, rfl, pk, vs, rfl, SqL.of (I.keep _ _ opk.1 opk.2 npk k4), fun p1 oz e1 oz0 => ⟨_, rfl, pt, ws, rfl, .inl ⟨SqL.of ((upd_ne (ne_of_none I.at_ e1)).trans I.at_), fun p2 e2 => ⟨(by show 2 ≤ sizeLine; rw [sizeLine_eq]; decide), fun p3 e3 => ?_⟩⟩⟩⟩
          have D1 := D'.new (o := .frz oz (.tup vs)) e1
          have D2 := D1.new (o := .tup ws) e2
          have D3 := D2.new (o := .tup [.ref p1, .ref p2]) e3
          have K1 := KF.new (o := .frz oz (.tup vs)) e1
          have K2 := K1.new (o := .tup ws) e2
          have K3 := K2.new (o := .tup [.ref p1, .ref p2]) e3
          have n1 := hD.dom D' KF p1 e1
          have n2 := hD.dom D1 K1 p2 e2
          have n3 := hD.dom D2 K2 p3 e3
          have a1 : upd (upd (upd H' p1 (.frz oz (.tup vs))) p2 (.tup ws)) p3 (.tup [.ref p1, .ref p2]) p1 = some (.frz oz (.tup vs)) := by
            have x1 : upd H' p1 (.frz oz (.tup vs)) p1 = some (.frz oz (.tup vs)) := upd_same
            have x2 := (upd_ne (o := .tup ws) (ne_of_none x1 e2)).trans x1
            exact (upd_ne (ne_of_none x2 e3)).trans x2
          have a2 : upd (upd (upd H' p1 (.frz oz (.tup vs))) p2 (.tup ws)) p3 (.tup [.ref p1, .ref p2]) p2 = some (.tup ws) := by
            have x2 : upd (upd H' p1 (.frz oz (.tup vs))) p2 (.tup ws) p2 = some (.tup ws) := upd_same
            exact (upd_ne (ne_of_none x2 e3)).trans x2
          have up : ∀ b o, H' b = some o → upd (upd (upd H' p1 (.frz oz (.tup vs))) p2 (.tup ws)) p3 (.tup [.ref p1, .ref p2]) b = some o := fun b o e => by
            have x1 := (upd_ne (o := .frz oz (.tup vs)) (ne_of_none e e1)).trans e
            have x2 := (upd_ne (o := .tup ws) (ne_of_none x1 e2)).trans x1
            exact (upd_ne (ne_of_none x2 e3)).trans x2
          refine k p3 p1 p2 vs ws ks os u _ D3 (by omega) (by omega) K3 n3 n1 n2 upd_same ⟨oz, a1, oz0⟩ a2 ?_ ?_ ⟨KK.ne, KK.sub, KK.num, ?_, oks⟩
          · refine kds_keeps (fun a x e => ?_) _ _ KK.ok
            obtain ⟨z1, z2⟩ := Nw.of e
            have z3 := kB _ _ z1 z2
            have nat : a ≠ pt := fun z => by
              rw [z, p4] at z3
              cases z3
            exact Nw.at z1 (up _ _ (I.keep _ _ (hD.off z1).1 (hD.off z1).2 nat z3))
          · exact DKs.keeps (Nw.mono (hD.dom DB KHB) fun b o _ e => up b o e) _ _ I.ok
          · exact sub.trans (List.take_sublist _ _)
end
end K05

set_option Elab.async false
set_option linter.all false
set_option maxRecDepth 100000
set_option maxHeartbeats 4000000
/-! A drawn thing. -/
namespace K05
open PySem PySem.Spec PyProof.Rows L2 Mine
abbrev sThing : Stmt := top 36
def leaves : List Str := [PySem.Str.ofString "a", PySem.Str.ofString "half", PySem.Str.ofString "K", PySem.Str.ofString "N"]
structure MakesAt (H : Hp) (mk : Addr) (ms : List V) (ks : List (Str × Int)) : Prop where
  at_ : Fz H mk ms
  ok : DKs H ms (ks.map kD)
  sub : (ks.map (·.1)).Sublist W8
  num : ∀ p ∈ ks, 1 ≤ p.2 ∧ p.2 ≤ 3
theorem Keep.tup {dk dl a : Addr} {H H' : Hp} {t : Int} {xs : List V} (k : Keep dk dl H H') (h : DeckAt H dk dl t) (e : H a = some (.tup xs)) : H' a = some (.tup xs) := by
  obtain ⟨⟨m, h1, _⟩, ⟨cs, h2, _⟩⟩ := h
  exact k _ _ (ne_of e h1 (by intro z; cases z)) (ne_of e h2 (by intro z; cases z)) e
theorem Keep.fz {dk dl a : Addr} {H H' : Hp} {t : Int} {xs : List V} (k : Keep dk dl H H') (h : DeckAt H dk dl t) (e : Fz H a xs) : Fz H' a xs := by
  obtain ⟨⟨m, h1, _⟩, ⟨cs, h2, _⟩⟩ := h
  obtain ⟨o, e, d⟩ := e
  exact ⟨o, k _ _ (ne_of e h1 (by intro z; cases z)) (ne_of e h2 (by intro z; cases z)) e, d⟩
theorem MakesAt.keep {dk dl mk : Addr} {H H' : Hp} {t : Int} {ms : List V} {ks : List (Str × Int)} (M : MakesAt H mk ms ks) (h : DeckAt H dk dl t) (k : Keep dk dl H H') : MakesAt H' mk ms ks :=
  ⟨k.fz h M.at_, kds_keeps (fun _ _ e => k.tup h e) _ _ M.ok, M.sub, M.num⟩
theorem MakesAt.len {H : Hp} {mk : Addr} {ms : List V} {ks : List (Str × Int)} (M : MakesAt H mk ms ks) : ms.length = ks.length ∧ ks.length ≤ 8 := by
  refine ⟨by have := M.ok.len; rwa [List.length_map] at this, ?_⟩
  have := M.sub.length_le
  rw [List.length_map] at this
  exact this
/-- a word or name, or a kind with at least one part -/
def NonN (d : PyData) : Prop := (∃ c, d = .str c) ∨ ∃ ds, d = .tuple ds
structure ThingOk (d : PyData) : Prop where
  shape : (∃ c, d = .str c) ∨ ∃ c d1 ds, d = .tuple (.str c :: d1 :: ds) ∧ NonN d1
  lay : d.canLay0 = true
theorem ThingOk.nonN {d : PyData} (h : ThingOk d) : NonN d := by
  rcases h.shape with ⟨c, e⟩ | ⟨c, d1, ds, e, _⟩
  · exact .inl ⟨c, e⟩
  · exact .inr ⟨_, e⟩
theorem lays : ∀ ds : List PyData, (∀ d ∈ ds, ThingOk d) → PyData.canLayAll0 ds = true
  | [], _ => by simp [PyData.canLayAll0]
  | d :: ds, h => by
    simp only [PyData.canLayAll0, Bool.and_eq_true]
    exact ⟨(h d (List.mem_cons_self ..)).lay, lays ds fun x hx => h x (List.mem_cons_of_mem _ hx)⟩
theorem lf_ok : ∀ x ∈ leaves, PyData.strOk x = true := by decide +kernel
structure SA (s l k : Nat) (ds : List PyData) : Prop where
  ok : PyData.showableAll ds = true
  len : ((PyData.shownAll ds).map (·.length)).sum ≤ s
  num : (PyData.shownAll ds).length = k
  dep : PyData.depthAll ds ≤ l
theorem SA.nil {l : Nat} : SA 0 l 0 [] := ⟨by simp [PyData.showableAll], by simp [PyData.shownAll], by simp [PyData.shownAll], by simp [PyData.depthAll]⟩
theorem SA.snoc {s n l k : Nat} {d : PyData} (h : Shows n l d) {ds : List PyData} (a : SA s l k ds) : SA (s + n) l (k + 1) (ds ++ [d]) := by
  have ap1 : ∀ xs : List PyData, PyData.showableAll (xs ++ [d]) = (PyData.showableAll xs && d.showable) := fun xs => by
    induction xs with
    | nil => simp [PyData.showableAll]
    | cons x r ih => simp [PyData.showableAll, ih, Bool.and_assoc]
  have ap2 : ∀ xs : List PyData, PyData.shownAll (xs ++ [d]) = PyData.shownAll xs ++ [d.shown] := fun xs => by
    induction xs with
    | nil => simp [PyData.shownAll]
    | cons x r ih => simp [PyData.shownAll, ih]
  have ap3 : ∀ xs : List PyData, PyData.depthAll (xs ++ [d]) = max (PyData.depthAll xs) d.depth := fun xs => by
    induction xs with
    | nil => simp [PyData.depthAll]
    | cons x r ih =>
      simp only [List.cons_append, PyData.depthAll, ih]
      omega
  refine ⟨by rw [ap1, a.ok, h.ok]; rfl, ?_, ?_, ?_⟩
  · rw [ap2, List.map_append, List.sum_append]
    have := h.len
    have := a.len
    simp only [List.map_cons, List.map_nil, List.sum_cons, List.sum_nil]
    omega
  · rw [ap2, List.length_append]
    have := a.num
    simp only [List.length_cons, List.length_nil]
    omega
  · rw [ap3]
    have := h.dep
    have := a.dep
    omega
theorem SA.cons {s n l k : Nat} {d : PyData} (h : Shows n l d) {ds : List PyData} (a : SA s l k ds) : SA (s + n) l (k + 1) (d :: ds) := by
  have h1 := h.len
  have h2 := h.dep
  have a1 := a.len
  have a2 := a.dep
  have a3 := a.num
  refine ⟨?_, ?_, ?_, ?_⟩
  · simp only [PyData.showableAll, h.ok, a.ok]
    rfl
  · simp only [PyData.shownAll, List.map_cons, List.sum_cons]
    omega
  · simp only [PyData.shownAll, List.length_cons]
    omega
  · simp only [PyData.depthAll]
    omega
theorem SA.tuple {s l k : Nat} {ds : List PyData} (a : SA s l k ds) : Shows (s + 2 * k + 3) (l + 1) (.tuple ds) := by
  have h1 := tupleText_len_le (PyData.shownAll ds)
  have h3 := a.len
  have h4 := a.num
  have h5 := a.dep
  exact ⟨by simpa only [PyData.showable] using a.ok, by simp only [PyData.shown]; omega, by simp only [PyData.depth]; omega⟩
theorem SA.list {s l k : Nat} {ds : List PyData} (a : SA s l k ds) : Shows (s + 2 * k + 3) (l + 1) (.list ds) := by
  have h1 := listText_len_le (PyData.shownAll ds)
  have h3 := a.len
  have h4 := a.num
  have h5 := a.dep
  exact ⟨by simpa only [PyData.showable] using a.ok, by simp only [PyData.shown]; omega, by simp only [PyData.depth]; omega⟩
theorem w8_shows : ∀ x ∈ W8, (PyData.shown (.str x)).length ≤ 10 := by decide +kernel
theorem w8_str {x : Str} (h : x ∈ W8) : Shows 10 0 (.str x) := ⟨by simp [PyData.showable], w8_shows x h, by simp [PyData.depth]⟩
theorem lf_shows : ∀ x ∈ leaves, (PyData.shown (.str x)).length ≤ 10 := by decide +kernel
theorem lf_str {x : Str} (h : x ∈ leaves) : Shows 10 0 (.str x) := ⟨by simp [PyData.showable], lf_shows x h, by simp [PyData.depth]⟩
theorem SA.thing {s l k : Nat} {c : Str} {ds : List PyData} (a : SA s l k ds) (hk : k ≤ 3) (hc : c ∈ W8) : Shows (s + 30) (l + 1) (.tuple (.str c :: ds)) :=
  (a.cons ((w8_str hc).up (Nat.le_refl _) (Nat.zero_le _))).tuple.up (by omega) (Nat.le_refl _)
def spThing (n : Nat) : Sp := fun vs H Q _ => ∃ (dk dl mk lf : Addr) (t : Int) (top : Nat) (ms : List V) (ks : List (Str × Int)), vs = [.ref dk, .ref mk, .ref lf, .int (top : Int), .int (n : Int)] ∧ DeckAt H dk dl t ∧ MakesAt H mk ms ks ∧
  lf ≠ dl ∧ H lf = some (.lst (leaves.map V.str)) ∧ 1 ≤ top ∧ top ≤ 6 ∧ 0 ≤ t ∧ t + 5 * (top : Int) ≤ 50000 ∧
  ∀ (v : V) (d : PyData) (t' : Int) (H' : Hp), DeckAt H' dk dl t' → t ≤ t' → t' ≤ t + 5 * (top : Int) → Keep dk dl H H' → DK (Nw H H') v d → ThingOk d → Shows (30 * top) n d → Q v H'
structure TxtT (K : PySem.W.Frag) (mg : Str → Option Value) (fD fP fT : Addr) : Prop extends TxtP K mg fD fP where
  range : mg "range" = none
  gT : mg "_law_thing" = some (.ref fT)
  kT : PySem.W.keepIn K (.ref fT) = true
abbrev nThing : List Str := ["_law_deck_here", "_law_makes", "_law_leaves", "_law_top", "_law_deep", "_law_fit_here", "_law_item", "_law_word", "_law_many", "_law_found", "_law_left", "_law_k", "_law_own"]
section
variable {P : Program} {w : World} {K : PySem.W.Frag} {mg : Str → Option Value} {base : Heap}
theorem scThing : FnScope nThing ["_law_deck_here", "_law_makes", "_law_leaves", "_law_top", "_law_deep"] (defScope sThing) := ⟨rfl, rfl, rfl, by decide +kernel, rfl, by decide +kernel, by decide +kernel⟩
theorem ok_thing {j n : Nat} {f fD fP : Addr} {fd fdD fdP : FuncData} {sp' : Sp} (F : Fun K "_law_thing" "_law_thing" sThing f fd) (GD : FnOk P w K mg base CX0 1 fD fdD ["_law_deck_here", "_law_below"] spDraw) (bD : Binds K fdD ["_law_deck_here", "_law_below"] [])
    (GP : FnOk P w K mg base CX0 2 fP fdP ["_law_deck_here", "_law_some"] spPick) (bP : Binds K fdP ["_law_deck_here", "_law_some"] []) (bT : Binds K fd ["_law_deck_here", "_law_makes", "_law_leaves", "_law_top", "_law_deep"] [])
    (T : TxtT K mg fD fP f) (G : FnOk P w K mg base CX0 (j + 2) f fd ["_law_deck_here", "_law_makes", "_law_leaves", "_law_top", "_law_deep"] sp') (hG : ∀ m, n = m + 1 → ∀ vs H Q E, spThing m vs H Q E → sp' vs H Q E) :
    FnOk P w K mg base CX0 (j + 3) f fd ["_law_deck_here", "_law_makes", "_law_leaves", "_law_top", "_law_deep"] (spThing n) := by
  refine F.ok scThing (fun vs H Q E h => ?_) (fun cdv A outer s H vs Q E hr h => ?_)
  · obtain ⟨dk, dl, mk, lf, t, top, ms, ks, rfl, _⟩ := h
    rfl
  · obtain ⟨dk, dl, mk, lf, t, top, ms, ks, rfl, hD, M, hlf, eL, top1, top6, t0, t1, k⟩ := h
    have hu := hu_of hr
    have hr1 : Room 1 _ := hr.mono (by omega)
    have hr2 : Room 2 _ := hr.mono (by omega)
    refine ⟨_, pss_cons (ps_setLc (i := 5) (own := [("_law_item", 6)]) (g := gName 6) rfl scThing.nd rfl rfl (sw_true rfl rfl rfl (by decide +kernel)) (pi_tup (pv 1))
        (blkOk_by (own := [("_law_item", 6)]) (N := nThing) (sc := defScope sThing) (by decide +kernel))
        (fun _ _ _ _ _ => pg_name (i := 6) scThing.nd rfl (Or.inl rfl)) (fun _ _ _ _ _ => pts_one (PW.pt (pw_and (pt_cmpR op_lt (pe_ix (show IxR _ (rIxT K) from ix_tup) (pv 6) pe_int (fun _ _ => rfl)) (pv 3) (nomark _)) (pw_and1 (pt_cmpR op_gt (pv 4) pe_int (nomark _)))))) (fun _ _ _ _ _ => pv 6))
      (pss_cons (ps_if (PW.pt (pw_or (pt_cmpR (op_eqD hr.units) (pv 5) (pe_lst pa_nil) (nomark _)) (pw_or1 (pt_cmpR op_eq (pe_call GD hr1 rfl T.gD T.kD bD .nil pass0 (pa_cons (pv 0) (pa_cons pe_int pa_nil))) pe_int (nomark _)))))
          (pss_one (ps_ret (pe_call GP hr2 rfl T.gP T.kP bP .nil pass0 (pa_cons (pv 0) (pa_cons (pv 2) pa_nil))))) pss_nil)
      (pss_cons (ps_asg (pe_call GP hr2 rfl T.gP T.kP bP .nil pass0 (pa_cons (pv 0) (pa_cons (pv 5) pa_nil))) (pg_tup rfl (pgs_cons (pg_name (i := 7) scThing.nd rfl (.inl rfl)) (pgs_cons (pg_name (i := 8) scThing.nd rfl (.inl rfl)) pgs_nil))))
      (pss_cons (ps_par (i := 9) (j := 10) rfl scThing.nd rfl rfl (by decide) rfl rfl (pa_cons (pe_tup (pa_cons (pv 7) pa_nil)) (pa_cons (pe_op op_sub (pv 3) pe_int) pa_nil)) (by rfl))
      (pss_cons (ps_for PassesOwn.never rfl (pi_range1 rfl T.range (pa_cons (pv 8) pa_nil)) (pg_name (i := 11) scThing.nd rfl (.inl rfl))
        (pss_cons (ps_set (i := 12) scThing.nd rfl (.inl rfl) (pe_op op_add pe_int (pe_call GD hr1 rfl T.gD T.kD bD .nil pass0 (pa_cons (pv 0) (pa_cons (pe_op op_sub (pv 10) (pe_op op_sub (pe_op op_sub (pv 8) (pv 11)) pe_int)) pa_nil)))))
        (pss_one (ps_par (i := 9) (j := 10) rfl scThing.nd rfl rfl (by decide) rfl rfl (pa_cons (pe_op op_catT (pv 9) (pe_tup (pa_cons (pe_call G hr rfl T.gT T.kT bT .nil pass0 (pa_cons (pv 0) (pa_cons (pv 1) (pa_cons (pv 2) (pa_cons (pv 12) (pa_cons (pe_op op_sub (pv 4) pe_int) pa_nil)))))) pa_nil))) (pa_cons (pe_op op_sub (pv 10) (pv 12)) pa_nil)) (by rfl)))))
      (pss_one (ps_ret (pv 9))))))), ?_⟩
    have olf : lf ≠ dk := by
      obtain ⟨⟨m, h1, _⟩, _⟩ := hD
      exact ne_of eL h1 (by intro z; cases z)
    obtain ⟨mlen, klen⟩ := M.len
    have w8 : ∀ p ∈ ks, p.1 ∈ W8 := fun p hp => M.sub.subset (List.mem_map_of_mem hp)
    refine ⟨_, rfl, mk, rfl, ⟨_, M.at_.sq⟩, fun D hDn => ?_⟩
    have oD := hD.off hDn
    refine lc_tup (K := K) (a := mk) (xs := ms) (fun i H' => ∃ (fs : List V) (fk : List (Str × Int)), H' = upd H D (.lst fs) ∧ DKs H fs (fk.map kD) ∧ (∀ p ∈ fk, p ∈ ks ∧ p.2 < (top : Int) ∧ 0 < n) ∧ fs.length ≤ i)
      ⟨[], [], rfl, .nil, fun _ z => (List.not_mem_nil z).elim, Nat.le_refl _⟩ (fun i H' _ ⟨fs, fk, e, _⟩ => by rw [e]; exact (M.at_.upd hDn).sq) ?_ ?_
    · rintro i y H' hi ⟨fs, fk, rfl, hfs, hfk, fl⟩
      obtain ⟨d, e1, h1⟩ := dks_at M.ok hi
      rw [List.getElem?_map] at e1
      obtain ⟨p, hp, rfl⟩ : ∃ p, ks[i]? = some p ∧ d = kD p := by
        cases e : ks[i]? with
        | none =>
          rw [e] at e1
          cases e1
        | some z =>
          rw [e] at e1
          exact ⟨z, rfl, (Option.some.inj e1).symm⟩
      obtain ⟨a, rfl, ha⟩ := kd_of h1
      have il : i < ms.length := (List.getElem?_eq_some_iff.mp hi).1
      refine ⟨rfl, _, rfl, a, _, _, _, rfl, rfl, SqT.of ((upd_ne (ne_of_none ha hDn)).trans ha), rfl, _, rfl, _, _, rfl, rfl, _, rfl, ite2 (fun hb => ?_) (fun hb => ?_)⟩
      · refine ⟨_, rfl, _, _, rfl, rfl, _, rfl, ite2 (fun hc => ?_) (fun hc => ?_)⟩
        · refine ⟨_, rfl, fs, upd_same, by rw [sizeLine_eq]; omega, fs ++ [.ref a], fk ++ [p], by rw [upd_upd], ?_, ?_, by rw [List.length_append]; simp only [List.length_cons, List.length_nil]; omega⟩
          · rw [List.map_append]
            exact DKs.snoc h1 hfs
          · intro z hz
            rcases List.mem_append.mp hz with h | h
            · exact hfk z h
            · simp only [List.mem_cons, List.not_mem_nil, or_false] at h
              subst h
              have q1 : (0 : Int) < (n : Int) := of_decide_eq_true hc
              exact ⟨List.mem_of_getElem? hp, of_decide_eq_true hb, by omega⟩
        · exact ⟨fs, fk, rfl, hfs, hfk, by omega⟩
      · exact ite2 (fun z => absurd z Bool.false_ne_true) fun _ => ⟨fs, fk, rfl, hfs, hfk, by omega⟩
    · rintro H1 ⟨fs, fk, rfl, hfs, hfk, fl⟩
      have D1 := hD.new (o := .lst fs) hDn
      have K1 : Keep dk dl H (upd H D (.lst fs)) := Keep.refl.new hDn
      have eD : upd H D (.lst fs) D = some (.lst fs) := upd_same
      generalize upd H D (.lst fs) = H1 at D1 K1 eD
      -- a leaf
      have leaf : ∀ (H' : Hp) (x : Int), DeckAt H' dk dl x → t ≤ x → x ≤ t + 1 → Keep dk dl H H' → spPick [.ref dk, .ref lf] H' Q E := fun H' x D' xa xb K' =>
        ⟨dk, dl, lf, x, leaves.map V.str, rfl, D', hlf, K' _ _ olf hlf eL, by simp [leaves], by simp [leaves], by omega, by omega, fun y H4 hy D4 K4 => by
          obtain ⟨c, hc, rfl⟩ := List.mem_map.mp hy
          exact k _ (.str c) _ _ D4 (by omega) (by omega) (K'.trans K4) (.str c) ⟨.inl ⟨c, rfl⟩, by simp only [PyData.canLay0]; exact lf_ok c hc⟩ ((lf_str hc).up (by omega) (Nat.zero_le _))⟩
      have hlen : fs.length = fk.length := by
        have := hfs.len
        rwa [List.length_map] at this
      refine ⟨_, rfl, (by show 0 ≤ sizeLine; exact Nat.zero_le _), fun e he => ?_⟩
      have kE : Keep dk dl H1 (upd H1 e (.lst [])) := Keep.refl.new he
      have eDE := (upd_ne (o := .lst []) (ne_of_none eD he)).trans eD
      have f1 : DKs (upd H1 e (.lst [])) fs (fk.map kD) := kds_keeps (fun _ _ z => (K1.trans kE).tup hD z) _ _ hfs
      have slay : ∀ p ∈ fk, PyData.strOk p.1 = true := fun p hp => w8_ok _ (w8 p (hfk p hp).1)
      refine ⟨_, _, .lst (SqL.of eDE) (dks_dp K _ _ f1 (kds_lay fk slay)), .lst (SqL.of upd_same) .nil, kds_shaped slay, rfl, _, rfl, ?_⟩
      refine ite2 (fun hb => ?_) (fun hb => ?_)
      · exact ite2 (fun _ => ⟨_, rfl, _, rfl, leaf _ t (D1.new he) (by omega) (by omega) (K1.trans kE)⟩) fun z => absurd rfl z
      · refine ⟨_, rfl, dk, dl, 4, t, rfl, D1.new he, by decide, by decide, by omega, by omega, fun r H2 r0 r1 D2 K2 => ⟨rfl, _, rfl, ite2 (fun _ => ?_) (fun _ => ?_)⟩⟩
        · exact ⟨_, rfl, _, rfl, leaf _ (t + 1) D2 (by omega) (by omega) ((K1.trans kE).trans K2)⟩
        have KH2 := (K1.trans kE).trans K2
        have fne : fs ≠ [] := fun z => hb (by
          have : fk = [] := List.length_eq_zero_iff.mp (by rw [← hlen, z]; rfl)
          rw [this]
          simp [PyData.eqv, PyData.eqvAll])
        refine ⟨_, rfl, _, rfl, dk, dl, D, t + 1, fs, rfl, D2, oD.2, K2 _ _ oD.1 oD.2 eDE, fne, by omega, by omega, by omega, fun y H3 hy D3 K3 => ?_⟩
        obtain ⟨d, hd, h1⟩ := dks_mem hfs hy
        obtain ⟨⟨c, m⟩, hc, rfl⟩ := List.mem_map.mp hd
        obtain ⟨a, rfl, ha⟩ := kd_of h1
        obtain ⟨hks, mtop, npos⟩ := hfk _ hc
        have mb := M.num _ hks
        have hcw := w8 _ hks
        have mb1 : 1 ≤ m := mb.1
        have mb3 : m ≤ 3 := mb.2
        have mtop' : m < (top : Int) := mtop
        clear mb mtop
        obtain ⟨n', rfl⟩ : ∃ n', n = n' + 1 := ⟨n - 1, by omega⟩
        have KH3 := KH2.trans K3
        refine ⟨a, _, rfl, SqT.of (KH3.tup hD ha), rfl, _, _, rfl, _, _, rfl, rfl, ?_⟩
        refine ⟨_, rfl, (by show 1 ≤ sizeLine; rw [sizeLine_eq]; decide), fun q hq => ⟨_, rfl, _, _, rfl, rfl, _, _, rfl, ?_⟩⟩
        have hmt : ((m.toNat : Nat) : Int) = m := by omega
        refine ⟨_, rfl, _, rfl, by omega, by omega, ?_⟩
        refine for_range (lo := 0) (n := m.toNat) (fun i σ H' => ∃ (p : Addr) (vs : List V) (ds : List PyData) (s : Nat) (left x : Int) (o11 o12 : Option V), σ = [some (.ref dk), some (.ref mk), some (.ref lf), some (.int (top : Int)), some (.int ((n' + 1 : Nat) : Int)), some (.ref D), none, some (.str c), some (.int m), some (.ref p), some (.int left), o11, o12] ∧
            H' p = some (.tup (.str c :: vs)) ∧ H p = none ∧ DKs (Nw H H') vs ds ∧ vs.length = i ∧ (∀ d ∈ ds, ThingOk d) ∧ SA s n' i ds ∧ (s : Int) + 30 * left ≤ 30 * ((top : Int) - 1) ∧ m - (i : Int) ≤ left ∧ left ≤ (top : Int) - 1 ∧ DeckAt H' dk dl x ∧ t ≤ x ∧ x ≤ t + 2 + (i : Int) + 5 * ((top : Int) - 1 - left) ∧ Keep dk dl H H')
          ⟨q, [], [], 0, (top : Int) - 1, t + 1 + 1, none, none, rfl, upd_same, hD.dom D3 KH3 q hq, .nil, rfl, (fun _ z => (List.not_mem_nil z).elim), .nil, by omega, by omega, by omega, D3.new hq, by omega, by omega, KH3.new hq⟩ ?_ ?_
        · rintro i σ H' hi ⟨p, vs, ds, s, left, x, o11, o12, rfl, hp, np, hds, vl, tok, sa, sl, ml, lt, D', xa, xb, K'⟩
          have hi' : (i : Int) + 1 ≤ m := by omega
          refine ⟨_, rfl, _, rfl, _, rfl, _, rfl, _, _, rfl, rfl, _, _, rfl, rfl, _, _, rfl, rfl, dk, dl, left - (m - (0 + (i : Int)) - 1), x, rfl, D', by omega, by omega, by omega, by omega, fun r H4 r0 r1 D4 K4 => ⟨_, _, rfl, rfl, ?_⟩⟩
          have hown : (((1 + r).toNat : Nat) : Int) = 1 + r := by omega
          have KH4 := K'.trans K4
          refine ⟨_, rfl, _, rfl, _, rfl, _, rfl, _, rfl, _, rfl, _, _, rfl, rfl, hG n' rfl _ _ _ _ ⟨dk, dl, mk, lf, x + 1, (1 + r).toNat, ms, ks, ?_, D4, M.keep hD KH4, hlf, KH4 _ _ olf hlf eL, by omega, by omega, by omega, by omega, fun v d x' H5 D5 xc xd K5 hv hok hsh => ?_⟩⟩
          · have z : ((n' + 1 : Nat) : Int) - 1 = (n' : Int) := by omega
            show [V.ref dk, V.ref mk, V.ref lf, V.int (1 + r), V.int (((n' + 1 : Nat) : Int) - 1)] = [V.ref dk, V.ref mk, V.ref lf, V.int (((1 + r).toNat : Nat) : Int), V.int (n' : Int)]
            rw [hown, z]
          have KH5 := KH4.trans K5
          have op := hD.off np
          refine ⟨(by show 1 ≤ sizeLine; rw [sizeLine_eq]; decide), fun q5 hq5 => ?_⟩
          have hp5 : upd H5 q5 (.tup [v]) p = some (.tup (.str c :: vs)) := ((K4.trans K5).new hq5) _ _ op.1 op.2 hp
          refine ⟨p, q5, _, _, rfl, rfl, SqT.of hp5, SqT.of upd_same, List.cons_ne_nil _ _, (by rw [List.length_cons, List.length_cons, List.length_nil, sizeLine_eq]; omega), (fun z => absurd z (List.cons_ne_nil _ _)), fun _ p6 hp6 => ?_⟩
          refine ⟨_, rfl, _, rfl, _, _, rfl, rfl, _, _, rfl, ?_⟩
          have K56 : Keep dk dl H5 (upd (upd H5 q5 (.tup [v])) p6 (.tup (.str c :: vs ++ [v]))) := (Keep.refl.new hq5).new hp6
          have K46 : Keep dk dl H' (upd (upd H5 q5 (.tup [v])) p6 (.tup (.str c :: vs ++ [v]))) := (K4.trans K5).trans K56
          refine ⟨p6, vs ++ [v], ds ++ [d], s + 30 * (1 + r).toNat, left - (1 + r), x', _, _, rfl, upd_same, hD.dom (D5.new hq5) (KH5.new hq5) p6 hp6, ?_, by rw [List.length_append, vl]; rfl, (fun d' hd' => by
              rcases List.mem_append.mp hd' with h | h
              · exact tok _ h
              · simp only [List.mem_cons, List.not_mem_nil, or_false] at h
                rw [h]
                exact hok), sa.snoc hsh, by omega, by omega, by omega, (D5.new hq5).new hp6, by omega, by omega, KH5.trans K56⟩
          exact (DKs.keeps (Nw.mono (fun _ z => z) (K46.news hD)) _ _ hds).snoc' (DK.keeps (Nw.mono (hD.dom D4 KH4) (K56.news D4)) _ _ hv)
        · rintro σ H' ⟨p, vs, ds, s, left, x, o11, o12, rfl, hp, np, hds, vl, tok, sa, sl, ml, lt, D', xa, xb, K'⟩
          have hd1 : ∃ d1 dr, ds = d1 :: dr := by
            cases ds with
            | nil =>
              have := hds.len
              rw [vl] at this
              simp only [List.length_nil] at this
              omega
            | cons d1 dr => exact ⟨_, _, rfl⟩
          obtain ⟨d1, dr, rfl⟩ := hd1
          refine ⟨_, rfl, k _ (.tuple (.str c :: d1 :: dr)) x H' D' xa (by omega) K' (.tup (Nw.at np hp) (.cons (.str _) hds)) ⟨.inr ⟨c, d1, dr, rfl, (tok d1 (List.mem_cons_self ..)).nonN⟩, by
            simp only [PyData.canLay0, PyData.canLayAll0, Bool.and_eq_true]
            have z := lays _ tok
            simp only [PyData.canLayAll0, Bool.and_eq_true] at z
            exact ⟨w8_ok _ hcw, z⟩⟩ ((sa.thing (by omega) hcw).up (by omega) (Nat.le_refl _))⟩
end
end K05

set_option Elab.async false
set_option linter.all false
set_option maxRecDepth 100000
set_option maxHeartbeats 4000000
/-! Words, integers, ascending words. -/
namespace K05
open PySem PySem.Spec PyProof.Rows L2 Mine
abbrev sWord : Stmt := top 8
abbrev sInt : Stmt := top 18
abbrev sAsc : Stmt := top 9
def WW : List Str := W8 ++ W6 ++ [PySem.Str.ofString "sign", PySem.Str.ofString "shown", PySem.Str.ofString "signed", PySem.Str.ofString "unseal"]
def ABC : Str := PySem.Str.ofString "abcdefghijklmnopqrstuvwxyz"
theorem ww_len : ∀ x ∈ WW, 1 ≤ x.length ∧ x.length ≤ 8 := by decide +kernel
theorem ww_abc : ∀ x ∈ WW, ∀ c ∈ x.cps.toList, c ∈ ABC.cps.toList := by decide +kernel
def spWord : Sp := fun vs H Q _ => ∃ x, x ∈ WW ∧ vs = [.str x] ∧ ∀ H', Same H H' → Q (.bl true) H'
structure TxtW (mg : Str → Option Value) : Prop where
  isi : mg "isinstance" = none
  str : mg "str" = none
  int : mg "int" = none
  bool : mg "bool" = none
  tuple : mg "tuple" = none
  len : mg "len" = none
  all : mg "all" = none
  zip : mg "zip" = none
  dict : mg "dict" = none
  longest : ∃ u, mg "LONGEST" = some u ∧ RelV (.int 8) u
  letters : ∃ u, mg "LETTERS" = some u ∧ RelV (.str ABC) u
theorem rep_all (n : Nat) : (List.replicate n true).all id = true := by
  induction n with
  | zero => rfl
  | succ n ih => rw [List.replicate_succ, List.all_cons, ih]; rfl
theorem rep_snoc (n : Nat) : (List.replicate (n + 1) true).map V.bl = (List.replicate n true).map V.bl ++ [V.bl true] := by
  rw [List.replicate_succ', List.map_append]
  rfl
section
variable {P : Program} {w : World} {K : PySem.W.Frag} {mg : Str → Option Value} {base : Heap}
theorem scWord : FnScope ["thing", "sign"] ["thing"] (defScope sWord) := ⟨rfl, rfl, rfl, by decide +kernel, rfl, by decide +kernel, by decide +kernel⟩
theorem ok_word {f : Addr} {fd : FuncData} (F : Fun K "is_word" "is_word" sWord f fd) (T : TxtW mg) : FnOk P w K mg base CX0 1 f fd ["thing"] spWord := by
  refine F.ok scWord (fun vs H Q E h => ?_) (fun cdv A outer s H vs Q E hr h => ?_)
  · obtain ⟨x, _, rfl, _⟩ := h
    rfl
  · obtain ⟨x, hx, rfl, k⟩ := h
    refine ⟨_, pss_cons (ps_if (PW.pt (pw_or (pt_not (pt_val (pe_callB call_isi (by rfl) T.isi (by decide +kernel) (pa_cons (pv 0) (pa_cons (pe_bltn (v := .ty "str") rfl T.str (by decide +kernel) rfl) pa_nil)))))
        (pw_or1 (pt_not (pt_chain op_le op_le pe_int (pe_callB call_len_str (by rfl) T.len PySem.boot_len (pa_cons (pv 0) pa_nil)) (C8.pe_gc (v := .int 8) rfl T.longest)))))) (pss_one (ps_ret pe_bl)) pss_nil)
      (pss_one (ps_ret (pe_callB (cr_all rfl) (by rfl) T.all (by decide +kernel) (pa_cons (pe_lc (own := [("sign", 1)]) (g := gName 1) (tt := tYes) rfl scWord.nd (pi_str (pv 0))
        (blkOk_by (own := [("sign", 1)]) (N := ["thing", "sign"]) (sc := defScope sWord) (by decide +kernel))
        (fun _ _ _ _ _ => pg_name (i := 1) scWord.nd rfl (Or.inl rfl)) (fun _ _ _ _ _ => pts_nil) (fun _ _ _ _ _ => pe_cmpR op_in_sign (pv 1) (C8.pe_gc (v := .str ABC) (by rfl) T.letters) (by with_unfolding_all rfl))) pa_nil)))), ?_⟩
    have hl := ww_len x hx
    refine ⟨_, rfl, _, _, _, _, true, rfl, .ty "str", .base (.str x), kit_ty rfl, _, rfl, ite2 (fun z => absurd z (by decide)) (fun _ => ?_)⟩
    refine ⟨_, rfl, x, rfl, (by rw [sizeLine_eq]; omega), _, _, rfl, rfl, _, rfl, ite2 (fun _ => ?_) (fun z => absurd (decide_eq_true (by omega)) z)⟩
    refine ⟨_, _, rfl, rfl, _, rfl, ite2 (fun z => ?_) (fun _ => ?_)⟩
    · have : decide ((x.length : Int) ≤ 8) = true := decide_eq_true (by omega)
      rw [this] at z
      cases z
    · refine ⟨_, rfl, x, rfl, fun D hD => ?_⟩
      refine lc_it walk_str (fun i H' => H' = upd H D (.lst ((List.replicate i true).map V.bl))) rfl (fun _ _ _ _ => trivial) ?_ ?_
      · rintro i y H1 H2 hi rfl ⟨rfl, c, hc, rfl⟩
        refine ⟨rfl, ?_⟩
        unfold tYes
        dsimp only
        rw [if_pos rfl]
        have hm : c ∈ ABC.cps.toList := ww_abc x hx c (List.mem_of_getElem? (by rw [Array.getElem?_toList]; exact hc))
        refine ⟨_, rfl, c, _, rfl, rfl, _, upd_same, ?_, ?_⟩
        · have hs : x.cps.size = x.length := rfl
          rw [List.length_map, List.length_replicate, sizeLine_eq]
          omega
        · rw [upd_upd, decide_eq_true hm, rep_snoc]
      · rintro H1 rfl
        refine ⟨D, _, rfl, SqL.of upd_same, ?_⟩
        rw [rep_all]
        exact k _ (same_new same_rfl hD)
theorem scInt : FnScope ["value", "low", "high"] ["value", "low", "high"] (defScope sInt) := ⟨rfl, rfl, rfl, by decide +kernel, rfl, by decide +kernel, by decide +kernel⟩
def spInt : Sp := fun vs H Q _ => ∃ v lo hi : Int, vs = [.int v, .int lo, .int hi] ∧ lo ≤ v ∧ v ≤ hi ∧ Q (.bl true) H
theorem ok_int {f : Addr} {fd : FuncData} (F : Fun K "_is_integer" "_is_integer" sInt f fd) (T : TxtW mg) : FnOk P w K mg base CX0 1 f fd ["value", "low", "high"] spInt := by
  refine F.ok scInt (fun vs H Q E h => ?_) (fun cdv A outer s H vs Q E hr h => ?_)
  · obtain ⟨_, _, _, rfl, _⟩ := h
    rfl
  · obtain ⟨v, lo, hi, rfl, h1, h2, k⟩ := h
    refine ⟨_, pss_one (ps_ret (pe_and (pe_callB call_isi (by rfl) T.isi (by decide +kernel) (pa_cons (pv 0) (pa_cons (pe_bltn (v := .ty "int") rfl T.int (by decide +kernel) rfl) pa_nil)))
      (pe_and (pe_not (pe_callB call_isi (by rfl) T.isi (by decide +kernel) (pa_cons (pv 0) (pa_cons (pe_bltn (v := .ty "bool") rfl T.bool (by decide +kernel) rfl) pa_nil))))
      (pe_one (pe_chain op_le op_le (pv 1) (pv 0) (pv 2)))))), ?_⟩
    refine ⟨_, rfl, _, _, _, _, true, rfl, .ty "int", .base (.int v), kit_ty rfl, _, rfl, ite2 (fun _ => ?_) (fun z => absurd rfl z)⟩
    refine ⟨_, rfl, _, _, _, _, false, rfl, .ty "bool", .base (.int v), kit_ty (by decide +kernel), _, rfl, _, rfl, ite2 (fun _ => ?_) (fun z => absurd rfl z)⟩
    refine ⟨_, rfl, _, rfl, _, _, rfl, rfl, _, rfl, ite2 (fun _ => ?_) (fun z => absurd (decide_eq_true h1) z)⟩
    refine ⟨_, rfl, _, _, rfl, rfl, ?_⟩
    dsimp only
    rw [decide_eq_true h2]
    exact k
theorem cut1 (xs : List V) : cutV xs (some 1) none = xs.drop 1 := by
  unfold cutV HT.sIx
  cases xs with
  | nil => rfl
  | cons x r => simp
theorem scAsc : FnScope ["texts", "left", "right"] ["texts"] (defScope sAsc) := ⟨rfl, rfl, rfl, by decide +kernel, rfl, by decide +kernel, by decide +kernel⟩
def Asc (ws : List Str) : Prop := ∀ (i : Nat) (a b : Str), ws[i]? = some a → ws[i + 1]? = some b → a.cps.toList < b.cps.toList
def spAsc : Sp := fun vs H Q _ => ∃ (p : Addr) (ws : List Str), vs = [.ref p] ∧ H p = some (.lst (ws.map V.str)) ∧ ws.length ≤ 1000 ∧ Asc ws ∧ ∀ H', Same H H' → Q (.bl true) H'
theorem ok_asc {f : Addr} {fd : FuncData} (F : Fun K "ascends" "ascends" sAsc f fd) (T : TxtW mg) : FnOk P w K mg base CX0 1 f fd ["texts"] spAsc := by
  refine F.ok scAsc (fun vs H Q E h => ?_) (fun cdv A outer s H vs Q E hr h => ?_)
  · obtain ⟨_, _, rfl, _⟩ := h
    rfl
  · obtain ⟨p, ws, rfl, hp, hl, ha, k⟩ := h
    refine ⟨_, pss_one (ps_ret (pe_callB (cr_all rfl) (by rfl) T.all (by decide +kernel) (pa_cons (pe_lc (own := [("left", 1), ("right", 2)]) (g := gTup K 2 (gCons (gName 1) (gCons (gName 2) gNil))) (tt := tYes) rfl scAsc.nd
        (pi_zip (by rfl) T.zip (pa_cons (pv 0) (pa_cons (pe_slice sl_list (pv 0) (po_some pe_int) po_none) pa_nil)))
        (blkOk_by (own := [("left", 1), ("right", 2)]) (N := ["texts", "left", "right"]) (sc := defScope sAsc) (by decide +kernel))
        (fun _ _ _ _ _ => pg_tup rfl (pgs_cons (pg_name (i := 1) scAsc.nd rfl (Or.inl rfl)) (pgs_cons (pg_name (i := 2) scAsc.nd rfl (Or.inl rfl)) pgs_nil))) (fun _ _ _ _ _ => pts_nil) (fun _ _ _ _ _ => pe_cmpR op_lt_str (pv 1) (pv 2) (nomark _))) pa_nil))), ?_⟩
    refine ⟨_, rfl, _, rfl, _, rfl, p, _, rfl, SqL.of hp, fun q hq => ?_⟩
    rw [cut1]
    have s1 : Same H (upd H q (.lst ((ws.map V.str).drop 1))) := same_new same_rfl hq
    refine ⟨p, q, _, _, rfl, SqL.of (s1 _ _ hp), SqL.of upd_same, fun D hD => ?_⟩
    have s2 := same_new (o := .lst []) s1 hD
    have eq0 : upd H q (.lst ((ws.map V.str).drop 1)) q = some (.lst ((ws.map V.str).drop 1)) := upd_same
    have nqD : q ≠ D := ne_of_none eq0 hD
    have npD : p ≠ D := ne_of_none (s1 _ _ hp) hD
    refine lc_it (walk_zip rfl) (fun i H' => H' D = some (.lst ((List.replicate i true).map V.bl)) ∧ H' p = some (.lst (ws.map V.str)) ∧ H' q = some (.lst ((ws.map V.str).drop 1)) ∧ Same H H') ⟨upd_same, s2 _ _ hp, (upd_ne nqD).trans eq0, s2⟩ (fun _ _ _ h => ⟨SqL.of h.2.1, SqL.of h.2.2.1⟩) ?_ ?_
    · rintro i y H1 H2 hi ⟨e1, e2, e3, e4⟩ ⟨t, x, z, rfl, ht, rfl, hx, hz⟩
      have hx : (ws.map V.str)[i]? = some x := hx
      have hz : ((ws.map V.str).drop 1)[i]? = some z := hz
      rw [List.getElem?_map] at hx
      rw [List.getElem?_drop, List.getElem?_map] at hz
      obtain ⟨a, ha1, rfl⟩ := Option.map_eq_some_iff.mp hx
      obtain ⟨b, hb1, rfl⟩ := Option.map_eq_some_iff.mp hz
      refine ⟨t, _, rfl, SqT.of upd_same, rfl, _, _, rfl, _, _, rfl, rfl, rfl, ?_⟩
      unfold tYes
      dsimp only
      rw [if_pos rfl]
      have lt := ha i a b ha1 (by rw [Nat.add_comm]; exact hb1)
      have u1 := (upd_ne (o := .tup [.str a, .str b]) (ne_of_none e1 ht)).trans e1
      have u2 := (upd_ne (o := .tup [.str a, .str b]) (ne_of_none e2 ht)).trans e2
      have u3 := (upd_ne (o := .tup [.str a, .str b]) (ne_of_none e3 ht)).trans e3
      have u4 := same_new (o := .tup [.str a, .str b]) e4 ht
      refine ⟨_, rfl, _, rfl, a, b, rfl, rfl, _, u1, ?_, ?_, (upd_ne npD).trans u2, (upd_ne nqD).trans u3, ?_⟩
      · rw [List.length_map, List.length_replicate, sizeLine_eq]
        have := (List.getElem?_eq_some_iff.mp ha1).1
        omega
      · rw [upd_same, decide_eq_true lt, rep_snoc]
      · intro c o e
        have hDn : H D = none := by
          cases zz : H D with
          | none => rfl
          | some o => rw [s1 _ _ zz] at hD; cases hD
        exact (upd_ne (ne_of_none e hDn)).trans (u4 c o e)
    · rintro H1 ⟨e1, e2, e3, e4⟩
      refine ⟨D, _, rfl, SqL.of e1, ?_⟩
      rw [rep_all]
      exact k _ e4
end
end K05

set_option Elab.async false
set_option linter.all false
set_option maxRecDepth 100000
set_option maxHeartbeats 4000000
/-! The parts of a book are looked at: kinds. -/
namespace K05
open PySem PySem.Spec PyProof.Rows L2 Mine
abbrev sKinds : Stmt := top 19
abbrev sKindQ : Stmt := top 20
theorem sqT_same {K : PySem.W.Frag} {H H' : Hp} {a : Addr} {xs : List V} (k : Same H H') (h : SqT K H a xs) : SqT K H' a xs := by
  rcases h with (h | ⟨o, h⟩) | h
  · exact .inl (.inl (k _ _ h))
  · exact .inl (.inr ⟨o, k _ _ h⟩)
  · exact .inr h
theorem tupN_same {K : PySem.W.Frag} {H H' : Hp} {a : Addr} {xs : List V} (k : Same H H') (h : TupN K H a xs) : TupN K H' a xs := by
  rcases h with ⟨o, e, d⟩ | ⟨h, r⟩
  · exact .inl ⟨o, k _ _ e, d⟩
  · exact .inr ⟨sqT_same k h, r⟩
theorem sqT_ty {K : PySem.W.Frag} {H : Hp} {a : Addr} {xs : List V} (h : SqT K H a xs) : TyX K H (.ref a) (.type "tuple") := by
  rcases h with (h | ⟨o, h⟩) | ⟨o, its, n, e, c, _⟩
  · exact .base (.tup h)
  · exact .fTuple h
  · exact .kTuple e c
/-- kinds with their numbers, wherever they stand -/
structure KindsAt (K : PySem.W.Frag) (H : Hp) (kk : Addr) (ps : List Addr) (ks : List (Str × Int)) : Prop where
  at_ : TupN K H kk (ps.map V.ref)
  each : Paired (fun a p => SqT K H a [.str p.1, .int p.2]) ps ks
theorem paired_at {α β : Type} {R : α → β → Prop} : ∀ {as : List α} {bs : List β} {i : Nat} {a : α}, Paired R as bs → as[i]? = some a → ∃ b, bs[i]? = some b ∧ R a b
  | _, _, 0, a, .cons h _, e => ⟨_, rfl, by cases e; exact h⟩
  | _, _, i + 1, a, .cons _ r, e => by
    obtain ⟨b, e1, h1⟩ := paired_at r (i := i) e
    exact ⟨b, e1, h1⟩
theorem paired_mono {α β : Type} {R S : α → β → Prop} (f : ∀ a b, R a b → S a b) : ∀ {as : List α} {bs : List β}, Paired R as bs → Paired S as bs
  | _, _, .nil => .nil
  | _, _, .cons h r => .cons (f _ _ h) (paired_mono f r)
theorem KindsAt.same {K : PySem.W.Frag} {H H' : Hp} {kk : Addr} {ps : List Addr} {ks : List (Str × Int)} (h : KindsAt K H kk ps ks) (k : Same H H') : KindsAt K H' kk ps ks :=
  ⟨tupN_same k h.at_, paired_mono (fun _ _ => sqT_same k) h.each⟩
theorem KindsAt.len {K : PySem.W.Frag} {H : Hp} {kk : Addr} {ps : List Addr} {ks : List (Str × Int)} (h : KindsAt K H kk ps ks) : ps.length = ks.length := h.each.length
/-- what is asked of kinds -/
structure KsOk (ks : List (Str × Int)) : Prop where
  ne : ks ≠ []
  ww : ∀ p ∈ ks, p.1 ∈ WW
  num : ∀ p ∈ ks, 1 ≤ p.2 ∧ p.2 ≤ 3
  asc : Asc (ks.map (·.1))
  nd : (ks.map (·.1)).Nodup
  len : ks.length ≤ 20
/-- the numbers of parts as a dict tells them -/
def Cnt (H : Hp) (cd : Addr) (ks : List (Str × Int)) : Prop := ∃ kvs : List (Key × V), H cd = some (.dK kvs) ∧ (∀ p ∈ ks, valV kvs (.inr p.1) = some (.int p.2)) ∧ ∀ c, c ∉ ks.map (·.1) → valV kvs (.inr c) = none
theorem Cnt.same {H H' : Hp} {cd : Addr} {ks : List (Str × Int)} (h : Cnt H cd ks) (k : Same H H') : Cnt H' cd ks := let ⟨kvs, e, r⟩ := h; ⟨kvs, k _ _ e, r⟩
abbrev kvOf (p : Str × Int) : Key × V := (.inr p.1, .int p.2)
theorem merge_no {c : Str} : ∀ (ks : List (Str × Int)) (acc : List (Key × V)), c ∉ ks.map (·.1) → valV (mergeK acc (ks.map kvOf)) (.inr c) = valV acc (.inr c)
  | [], _, _ => rfl
  | p :: r, acc, h => by
    rw [List.map_cons, List.mem_cons, not_or] at h
    show valV (mergeK (putK acc (Sum.inr p.1) (.int p.2)) (r.map kvOf)) (.inr c) = _
    rw [merge_no r _ h.2, valV_put, if_neg]
    intro z
    injection z with z
    exact h.1 z
theorem merge_yes {p : Str × Int} : ∀ (ks : List (Str × Int)) (acc : List (Key × V)), (ks.map (·.1)).Nodup → p ∈ ks → valV (mergeK acc (ks.map kvOf)) (.inr p.1) = some (.int p.2)
  | [], _, _, h => (List.not_mem_nil h).elim
  | q :: r, acc, nd, h => by
    rw [List.map_cons, List.nodup_cons] at nd
    show valV (mergeK (putK acc (Sum.inr q.1) (.int q.2)) (r.map kvOf)) (.inr p.1) = _
    rcases List.mem_cons.mp h with rfl | h
    · rw [merge_no r _ nd.1, valV_put, if_pos rfl]
    · exact merge_yes r _ nd.2 h
theorem cnt_new {H : Hp} {cd : Addr} {ks : List (Str × Int)} (nd : (ks.map (·.1)).Nodup) : Cnt (upd H cd (.dK (mergeK [] (ks.map kvOf)))) cd ks :=
  ⟨_, upd_same, fun _ hp => merge_yes ks [] nd hp, fun _ hc => by rw [merge_no ks [] hc]; rfl⟩
theorem paired_kv {K : PySem.W.Frag} {H : Hp} : ∀ {ps : List Addr} {ks : List (Str × Int)}, Paired (fun a p => SqT K H a [.str p.1, .int p.2]) ps ks → Paired (fun p kv => SqT K H p [kV kv.1, kv.2]) ps (ks.map kvOf)
  | _, _, .nil => .nil
  | _, _, .cons h r => .cons h (paired_kv r)
/-- what the defs of the book need of the text -/
structure TxtB (K : PySem.W.Frag) (mg : Str → Option Value) (fW fI fA : Addr) : Prop extends TxtW mg where
  gW : mg "is_word" = some (.ref fW)
  kW : PySem.W.keepIn K (.ref fW) = true
  gI : mg "_is_integer" = some (.ref fI)
  kI : PySem.W.keepIn K (.ref fI) = true
  gA : mg "ascends" = some (.ref fA)
  kA : PySem.W.keepIn K (.ref fA) = true
  mostP : ∃ u, mg "MOST_PARTS" = some u ∧ RelV (.int 3) u
  mostN : ∃ u, mg "MOST_NEEDS" = some u ∧ RelV (.int 2) u
section
variable {P : Program} {w : World} {K : PySem.W.Frag} {mg : Str → Option Value} {base : Heap}
/-- the three defs below -/
structure Lows (P : Program) (w : World) (K : PySem.W.Frag) (mg : Str → Option Value) (base : Heap) (fW fI fA : Addr) (dW dI dA : FuncData) : Prop where
  W : FnOk P w K mg base CX0 1 fW dW ["thing"] spWord
  bW : Binds K dW ["thing"] []
  I : FnOk P w K mg base CX0 1 fI dI ["value", "low", "high"] spInt
  bI : Binds K dI ["value", "low", "high"] []
  A : FnOk P w K mg base CX0 1 fA dA ["texts"] spAsc
  bA : Binds K dA ["texts"] []
theorem scKindQ : FnScope ["kind"] ["kind"] (defScope sKindQ) := ⟨rfl, rfl, rfl, by decide +kernel, rfl, by decide +kernel, by decide +kernel⟩
def spKindQ (K : PySem.W.Frag) : Sp := fun vs H Q _ => ∃ (a : Addr) (c : Str) (m : Int), vs = [.ref a] ∧ SqT K H a [.str c, .int m] ∧ c ∈ WW ∧ 1 ≤ m ∧ m ≤ 3 ∧ ∀ H', Same H H' → Q (.bl true) H'
theorem ok_kindQ {f fW fI fA : Addr} {fd dW dI dA : FuncData} (F : Fun K "_is_kind" "_is_kind" sKindQ f fd) (T : TxtB K mg fW fI fA) (L : Lows P w K mg base fW fI fA dW dI dA) : FnOk P w K mg base CX0 2 f fd ["kind"] (spKindQ K) := by
  refine F.ok scKindQ (fun vs H Q E h => ?_) (fun cdv A outer s H vs Q E hr h => ?_)
  · obtain ⟨_, _, _, rfl, _⟩ := h
    rfl
  · obtain ⟨a, c, m, rfl, ha, hc, m1, m3, k⟩ := h
    refine ⟨_, pss_cons (ps_if (PW.pt (pw_or (pt_not (pt_val (pe_callB call_isi (by rfl) T.isi (by decide +kernel) (pa_cons (pv 0) (pa_cons (pe_bltn (v := .ty "tuple") rfl T.tuple (by decide +kernel) rfl) pa_nil)))))
        (pw_or1 (pt_cmpR op_ne (pe_callB call_len_seq (by rfl) T.len PySem.boot_len (pa_cons (pv 0) pa_nil)) pe_int (nomark _))))) (pss_one (ps_ret pe_bl)) pss_nil)
      (pss_one (ps_ret (pe_and (pe_call L.W hr rfl T.gW T.kW L.bW .nil pass0 (pa_cons (pe_ix ix_tup (pv 0) pe_int (fun _ _ => rfl)) pa_nil))
        (pe_one (pe_call L.I hr rfl T.gI T.kI L.bI .nil pass0 (pa_cons (pe_ix ix_tup (pv 0) pe_int (fun _ _ => rfl)) (pa_cons pe_int (pa_cons (C8.pe_gc (v := .int 3) rfl T.mostP) pa_nil)))))))), ?_⟩
    refine ⟨_, rfl, _, _, _, _, true, rfl, .ty "tuple", sqT_ty ha, kit_ty rfl, _, rfl, ite2 (fun z => absurd z (by decide)) (fun _ => ?_)⟩
    refine ⟨_, rfl, a, _, rfl, .inr ha, rfl, _, rfl, ite2 (fun z => absurd z (by show ¬ (!decide (V.int ((2 : Nat) : Int) = V.int 2)) = true; decide)) (fun _ => ?_)⟩
    refine ⟨_, rfl, a, _, _, _, rfl, rfl, ha, rfl, c, hc, rfl, fun H1 k1 => ⟨_, rfl, ite2 (fun _ => ?_) (fun z => absurd rfl z)⟩⟩
    exact ⟨_, rfl, a, _, _, _, rfl, rfl, sqT_same k1 ha, rfl, m, 1, 3, rfl, m1, m3, k _ k1⟩
theorem scKinds : FnScope ["kinds", "kind"] ["kinds"] (defScope sKinds) := ⟨rfl, rfl, rfl, by decide +kernel, rfl, by decide +kernel, by decide +kernel⟩
def spKinds (K : PySem.W.Frag) : Sp := fun vs H Q _ => ∃ (kk : Addr) (ps : List Addr) (ks : List (Str × Int)), vs = [.ref kk] ∧ KindsAt K H kk ps ks ∧ KsOk ks ∧ ∀ H', Same H H' → Q (.bl true) H'
theorem ok_kinds {f fQ fW fI fA : Addr} {fd dQ dW dI dA : FuncData} (F : Fun K "_are_kinds" "_are_kinds" sKinds f fd) (T : TxtB K mg fW fI fA) (L : Lows P w K mg base fW fI fA dW dI dA)
    (G : FnOk P w K mg base CX0 2 fQ dQ ["kind"] (spKindQ K)) (bG : Binds K dQ ["kind"] []) (gQ : mg "_is_kind" = some (.ref fQ)) (kQ : PySem.W.keepIn K (.ref fQ) = true) : FnOk P w K mg base CX0 3 f fd ["kinds"] (spKinds K) := by
  refine F.ok scKinds (fun vs H Q E h => ?_) (fun cdv A outer s H vs Q E hr h => ?_)
  · obtain ⟨_, _, _, rfl, _⟩ := h
    rfl
  · obtain ⟨kk, ps, ks, rfl, hk, ok, k⟩ := h
    have hr1 : Room 1 _ := hr.mono (by decide)
    have hl := hk.len
    have hlen := ok.len
    refine ⟨_, pss_cons (ps_if (PW.pt (pw_or (pt_not (pt_val (pe_callB call_isi (by rfl) T.isi (by decide +kernel) (pa_cons (pv 0) (pa_cons (pe_bltn (v := .ty "tuple") rfl T.tuple (by decide +kernel) rfl) pa_nil)))))
        (pw_or1 (pt_cmpR op_eq (pe_callB call_len_seq (by rfl) T.len PySem.boot_len (pa_cons (pv 0) pa_nil)) pe_int (nomark _))))) (pss_one (ps_ret pe_bl)) pss_nil)
      (pss_one (ps_ret (pe_and (pe_callB (cr_all rfl) (by rfl) T.all (by decide +kernel) (pa_cons (pe_lc (own := [("kind", 1)]) (g := gName 1) (tt := tYes) rfl scKinds.nd (pi_tup (pv 0))
        (blkOk_by (own := [("kind", 1)]) (N := ["kinds", "kind"]) (sc := defScope sKinds) (by decide +kernel))
        (fun _ _ _ _ _ => pg_name (i := 1) scKinds.nd rfl (Or.inl rfl)) (fun _ _ _ _ _ => pts_nil) (fun _ _ _ _ _ => pe_call G hr rfl gQ kQ bG .nil pass0 (pa_cons (pv 1) pa_nil))) pa_nil))
        (pe_one (pe_call L.A hr1 rfl T.gA T.kA L.bA .nil pass0 (pa_cons (pe_lc (own := [("kind", 1)]) (g := gName 1) (tt := tYes) rfl scKinds.nd (pi_tup (pv 0))
        (blkOk_by (own := [("kind", 1)]) (N := ["kinds", "kind"]) (sc := defScope sKinds) (by decide +kernel))
        (fun _ _ _ _ _ => pg_name (i := 1) scKinds.nd rfl (Or.inl rfl)) (fun _ _ _ _ _ => pts_nil) (fun _ _ _ _ _ => pe_ix (show IxR _ (rIxT K) from ix_tup) (pv 1) pe_int (fun _ _ => rfl))) pa_nil)))))), ?_⟩
    refine ⟨_, rfl, _, _, _, _, true, rfl, .ty "tuple", sqT_ty hk.at_.sq, kit_ty rfl, _, rfl, ite2 (fun z => absurd z (by decide)) (fun _ => ?_)⟩
    refine ⟨_, rfl, kk, _, rfl, .inr hk.at_.sq, rfl, _, rfl, ite2 (fun z => ?_) (fun _ => ?_)⟩
    · have z := of_decide_eq_true z
      injection z with z
      rw [List.length_map, hl] at z
      exact absurd (List.length_eq_zero_iff.mp (by omega)) ok.ne
    refine ⟨_, rfl, kk, rfl, ⟨_, hk.at_.sq⟩, fun D hD => ?_⟩
    have nD : ∀ {H1 : Hp} {b : Addr} {o : HO}, H b = some o → b ≠ D := fun e => ne_of_none e hD
    refine lc_tup (K := K) (a := kk) (xs := ps.map V.ref) (fun i H' => H' D = some (.lst ((List.replicate i true).map V.bl)) ∧ Same H H') ⟨upd_same, same_new same_rfl hD⟩ (fun i H' _ h => sqT_same h.2 hk.at_.sq) ?_ ?_
    · rintro i y H1 hi ⟨e1, s1⟩
      rw [List.getElem?_map] at hi
      obtain ⟨a, ha, rfl⟩ := Option.map_eq_some_iff.mp hi
      obtain ⟨p, hp, hq⟩ := paired_at hk.each ha
      have hm := List.mem_of_getElem? hp
      have il : i < ps.length := (List.getElem?_eq_some_iff.mp ha).1
      refine ⟨rfl, ?_⟩
      unfold tYes
      dsimp only
      rw [if_pos rfl]
      refine ⟨_, rfl, a, p.1, p.2, rfl, sqT_same s1 hq, ok.ww p hm, (ok.num p hm).1, (ok.num p hm).2, fun H2 s2 => ⟨_, s2 _ _ e1, ?_, ?_, ?_⟩⟩
      · rw [List.length_map, List.length_replicate, sizeLine_eq]
        omega
      · rw [upd_same, rep_snoc]
      · exact fun b o e => (upd_ne (ne_of_none e hD)).trans (s2 _ _ (s1 _ _ e))
    · rintro H1 ⟨e1, s1⟩
      refine ⟨D, _, rfl, SqL.of e1, ?_⟩
      rw [rep_all]
      refine ⟨_, rfl, ite2 (fun _ => ?_) (fun z => absurd rfl z)⟩
      refine ⟨_, rfl, kk, rfl, ⟨_, sqT_same s1 hk.at_.sq⟩, fun E1 hE => ?_⟩
      refine lc_tup (K := K) (a := kk) (xs := ps.map V.ref) (fun i H' => H' = upd H1 E1 (.lst (((ks.take i).map (·.1)).map V.str))) rfl (fun i H' _ h => by rw [h]; exact sqT_same (same_new s1 hE) hk.at_.sq) ?_ ?_
      · rintro i y H2 hi rfl
        rw [List.getElem?_map] at hi
        obtain ⟨a, ha, rfl⟩ := Option.map_eq_some_iff.mp hi
        obtain ⟨p, hp, hq⟩ := paired_at hk.each ha
        have il : i < ks.length := (List.getElem?_eq_some_iff.mp hp).1
        refine ⟨rfl, ?_⟩
        unfold tYes
        dsimp only
        rw [if_pos rfl]
        refine ⟨_, rfl, a, _, _, _, rfl, rfl, sqT_same (same_new s1 hE) hq, rfl, _, upd_same, ?_, ?_⟩
        · rw [List.length_map, List.length_map, List.length_take, sizeLine_eq]
          omega
        · rw [upd_upd, List.take_add_one, hp, List.map_append, List.map_append]
          rfl
      · rintro H2 rfl
        rw [List.length_map, hl, List.take_of_length_le (Nat.le_refl _)]
        exact ⟨E1, ks.map (·.1), rfl, upd_same, by rw [List.length_map]; omega, ok.asc, fun H3 s3 => k H3 (same_tr (same_new s1 hE) s3)⟩
end
end K05

set_option Elab.async false
set_option linter.all false
set_option maxRecDepth 100000
set_option maxHeartbeats 4000000
/-! The parts of a book are looked at: needs and openings. -/
namespace K05
open PySem PySem.Spec PyProof.Rows L2 Mine
abbrev sOpens : Stmt := top 21
abbrev sOpenQ : Stmt := top 22
abbrev sNeedQ : Stmt := top 23
abbrev sOne : Stmt := top 24
inductive Nd where
  | part (j : Int)
  | around (c : Str) (j : Int)
  | inside (j : Int) (c : Str)
def ndV : Nd → List V
  | .part j => [.str (PySem.Str.ofString "part"), .int j]
  | .around c j => [.str (PySem.Str.ofString "around"), .str c, .int j]
  | .inside j c => [.str (PySem.Str.ofString "inside"), .int j, .str c]
def ndD : Nd → PyData
  | .part j => .tuple [.str (PySem.Str.ofString "part"), .int j]
  | .around c j => .tuple [.str (PySem.Str.ofString "around"), .str c, .int j]
  | .inside j c => .tuple [.str (PySem.Str.ofString "inside"), .int j, .str c]
def NdOk (m : Int) (ks : List (Str × Int)) : Nd → Prop
  | .part j => 0 ≤ j ∧ j < m
  | .around c j => (c, (1 : Int)) ∈ ks ∧ 0 ≤ j ∧ j < m
  | .inside j c => (c, (1 : Int)) ∈ ks ∧ 0 ≤ j ∧ j < m
structure Opn where
  w : Str
  k : Str
  g : Int
  nn : List Nd
def OpnAt (K : PySem.W.Frag) (H : Hp) (a : Addr) (o : Opn) : Prop := ∃ (b : Addr) (as : List Addr), SqT K H a [.str o.w, .str o.k, .int o.g, .ref b] ∧ SqT K H b (as.map V.ref) ∧ Paired (fun x n => SqT K H x (ndV n)) as o.nn
theorem OpnAt.same {K : PySem.W.Frag} {H H' : Hp} {a : Addr} {o : Opn} (k : Same H H') (h : OpnAt K H a o) : OpnAt K H' a o :=
  let ⟨b, as, h1, h2, h3⟩ := h
  ⟨b, as, sqT_same k h1, sqT_same k h2, paired_mono (fun _ _ => sqT_same k) h3⟩
structure OpnsAt (K : PySem.W.Frag) (H : Hp) (oo : Addr) (as : List Addr) (os : List Opn) : Prop where
  at_ : SqT K H oo (as.map V.ref)
  each : Paired (OpnAt K H) as os
theorem OpnsAt.same {K : PySem.W.Frag} {H H' : Hp} {oo : Addr} {as : List Addr} {os : List Opn} (h : OpnsAt K H oo as os) (k : Same H H') : OpnsAt K H' oo as os :=
  ⟨sqT_same k h.at_, paired_mono (fun _ _ => OpnAt.same k) h.each⟩
structure OpnOk (ks : List (Str × Int)) (o : Opn) : Prop where
  ww : o.w ∈ WW
  out : o.w ∉ ks.map (·.1)
  ex : ∃ m : Int, (o.k, m) ∈ ks ∧ 0 ≤ o.g ∧ o.g < m ∧ o.nn.length ≤ 2 ∧ ∀ n ∈ o.nn, NdOk m ks n
structure OsOk (ks : List (Str × Int)) (os : List Opn) : Prop where
  each : ∀ o ∈ os, OpnOk ks o
  asc : Asc (os.map (·.w))
  len : os.length ≤ 20
section
variable {P : Program} {w : World} {K : PySem.W.Frag} {mg : Str → Option Value} {base : Heap}
theorem scOne : FnScope ["counts", "kind"] ["counts", "kind"] (defScope sOne) := ⟨rfl, rfl, rfl, by decide +kernel, rfl, by decide +kernel, by decide +kernel⟩
def spOne : Sp := fun vs H Q _ => ∃ (cd : Addr) (c : Str) (ks : List (Str × Int)), vs = [.ref cd, .str c] ∧ Cnt H cd ks ∧ (c, (1 : Int)) ∈ ks ∧ c ∈ WW ∧ ∀ H', Same H H' → Q (.bl true) H'
theorem ok_one {f fW fI fA : Addr} {fd dW dI dA : FuncData} (F : Fun K "_has_one_part" "_has_one_part" sOne f fd) (T : TxtB K mg fW fI fA) (L : Lows P w K mg base fW fI fA dW dI dA) : FnOk P w K mg base CX0 2 f fd ["counts", "kind"] spOne := by
  refine F.ok scOne (fun vs H Q E h => ?_) (fun cdv A outer s H vs Q E hr h => ?_)
  · obtain ⟨_, _, _, rfl, _⟩ := h
    rfl
  · obtain ⟨cd, c, ks, rfl, hc, hm, hw, k⟩ := h
    have hu := hu_of hr
    refine ⟨_, pss_one (ps_ret (pe_and (pe_call L.W hr rfl T.gW T.kW L.bW .nil pass0 (pa_cons (pv 1) pa_nil))
      (pe_one (pe_cmpR op_eq (pe_dget2 hu (pv 0) (pv 1) pe_int ⟨rfl, by rfl, by rfl, rfl⟩) pe_int (nomark _))))), ?_⟩
    refine ⟨_, rfl, c, hw, rfl, fun H1 k1 => ⟨_, rfl, ite2 (fun _ => ?_) (fun z => absurd rfl z)⟩⟩
    obtain ⟨kvs, e, yes, no⟩ := hc.same k1
    exact ⟨_, rfl, cd, rfl, .inl ⟨kvs, .inl e⟩, _, rfl, some (.int 1), .inl ⟨kvs, .inr c, .inl e, rfl, (yes _ hm).symm⟩, rfl, k _ k1⟩
theorem scNeedQ : FnScope ["counts", "last", "need"] ["counts", "last", "need"] (defScope sNeedQ) := ⟨rfl, rfl, rfl, by decide +kernel, rfl, by decide +kernel, by decide +kernel⟩
def spNeedQ (K : PySem.W.Frag) : Sp := fun vs H Q _ => ∃ (cd a : Addr) (m : Int) (n : Nd) (ks : List (Str × Int)), vs = [.ref cd, .int (m - 1), .ref a] ∧ Cnt H cd ks ∧ (∀ p ∈ ks, p.1 ∈ WW) ∧ SqT K H a (ndV n) ∧ NdOk m ks n ∧ ∀ H', Same H H' → Q (.bl true) H'
theorem ok_needQ {f fO fW fI fA : Addr} {fd dO dW dI dA : FuncData} (F : Fun K "_is_need" "_is_need" sNeedQ f fd) (T : TxtB K mg fW fI fA) (L : Lows P w K mg base fW fI fA dW dI dA)
    (G : FnOk P w K mg base CX0 2 fO dO ["counts", "kind"] spOne) (bG : Binds K dO ["counts", "kind"] []) (gO : mg "_has_one_part" = some (.ref fO)) (kO : PySem.W.keepIn K (.ref fO) = true) : FnOk P w K mg base CX0 3 f fd ["counts", "last", "need"] (spNeedQ K) := by
  refine F.ok scNeedQ (fun vs H Q E h => ?_) (fun cdv A outer s H vs Q E hr h => ?_)
  · obtain ⟨_, _, _, _, _, rfl, _⟩ := h
    rfl
  · obtain ⟨cd, a, m, n, ks, rfl, hc, hw, ha, hn, k⟩ := h
    have hr1 : Room 1 _ := hr.mono (by decide)
    refine ⟨_, pss_cons (ps_if (PW.pt (pw_or (pt_not (pt_val (pe_callB call_isi (by rfl) T.isi (by decide +kernel) (pa_cons (pv 2) (pa_cons (pe_bltn (v := .ty "tuple") rfl T.tuple (by decide +kernel) rfl) pa_nil)))))
        (pw_or1 (pt_cmpR op_notIn_seq (pe_callB call_len_seq (by rfl) T.len PySem.boot_len (pa_cons (pv 2) pa_nil)) (pe_tup (pa_cons pe_int (pa_cons pe_int pa_nil))) (by with_unfolding_all rfl))))) (pss_one (ps_ret pe_bl)) pss_nil)
      (pss_cons (ps_if (pt_cmpR op_eq (pe_callB call_len_seq (by rfl) T.len PySem.boot_len (pa_cons (pv 2) pa_nil)) pe_int (nomark _))
        (pss_one (ps_ret (pe_and (pe_cmpR op_eq (pe_ix ix_tup (pv 2) pe_int (fun _ _ => rfl)) pe_str (nomark _)) (pe_one (pe_call L.I hr1 rfl T.gI T.kI L.bI .nil pass0 (pa_cons (pe_ix ix_tup (pv 2) pe_int (fun _ _ => rfl)) (pa_cons pe_int (pa_cons (pv 1) pa_nil)))))))) pss_nil)
      (pss_cons (ps_if (pt_cmpR op_eq (pe_ix ix_tup (pv 2) pe_int (fun _ _ => rfl)) pe_str (nomark _))
        (pss_one (ps_ret (pe_and (pe_call G hr rfl gO kO bG .nil pass0 (pa_cons (pv 0) (pa_cons (pe_ix ix_tup (pv 2) pe_int (fun _ _ => rfl)) pa_nil))) (pe_one (pe_call L.I hr1 rfl T.gI T.kI L.bI .nil pass0 (pa_cons (pe_ix ix_tup (pv 2) pe_int (fun _ _ => rfl)) (pa_cons pe_int (pa_cons (pv 1) pa_nil)))))))) pss_nil)
      (pss_one (ps_ret (pe_and (pe_cmpR op_eq (pe_ix ix_tup (pv 2) pe_int (fun _ _ => rfl)) pe_str (nomark _)) (pe_and (pe_call L.I hr1 rfl T.gI T.kI L.bI .nil pass0 (pa_cons (pe_ix ix_tup (pv 2) pe_int (fun _ _ => rfl)) (pa_cons pe_int (pa_cons (pv 1) pa_nil))))
        (pe_one (pe_call G hr rfl gO kO bG .nil pass0 (pa_cons (pv 0) (pa_cons (pe_ix ix_tup (pv 2) pe_int (fun _ _ => rfl)) pa_nil)))))))))), ?_⟩
    refine ⟨_, rfl, _, _, _, _, true, rfl, .ty "tuple", sqT_ty ha, kit_ty rfl, _, rfl, ite2 (fun z => absurd z (by decide)) (fun _ => ?_)⟩
    have k1 : ∀ {p : Addr}, H p = none → Same H (upd H p (.tup [.int 2, .int 3])) := fun hp => same_new same_rfl hp
    cases n with
    | part j =>
      obtain ⟨j0, j1⟩ := hn
      refine ⟨_, rfl, a, _, rfl, .inr ha, (by show 2 ≤ sizeLine; rw [sizeLine_eq]; decide), fun p hp => ⟨p, _, rfl, .inr (SqT.of upd_same), rfl, rfl, _, rfl, ite2 (fun z => absurd z (by show ¬ (!inV (.int ((2 : Nat) : Int)) [.int 2, .int 3]) = true; decide)) (fun _ => ?_)⟩⟩
      have ha1 := sqT_same (k1 hp) ha
      refine ⟨_, rfl, a, _, rfl, .inr ha1, rfl, _, rfl, ite2 (fun _ => ?_) (fun z => absurd (by show decide (V.int ((2 : Nat) : Int) = V.int 2) = true; decide) z)⟩
      refine ⟨_, rfl, a, _, _, _, rfl, rfl, ha1, rfl, rfl, _, rfl, ite2 (fun _ => ?_) (fun z => absurd (by decide) z)⟩
      exact ⟨_, rfl, a, _, _, _, rfl, rfl, ha1, rfl, _, rfl, j, 0, m - 1, rfl, j0, by omega, k _ (k1 hp)⟩
    | around c j =>
      obtain ⟨c1, j0, j1⟩ := hn
      refine ⟨_, rfl, a, _, rfl, .inr ha, (by show 2 ≤ sizeLine; rw [sizeLine_eq]; decide), fun p hp => ⟨p, _, rfl, .inr (SqT.of upd_same), rfl, rfl, _, rfl, ite2 (fun z => absurd z (by show ¬ (!inV (.int ((3 : Nat) : Int)) [.int 2, .int 3]) = true; decide)) (fun _ => ?_)⟩⟩
      have ha1 := sqT_same (k1 hp) ha
      refine ⟨_, rfl, a, _, rfl, .inr ha1, rfl, _, rfl, ite2 (fun z => absurd z (by show ¬ decide (V.int ((3 : Nat) : Int) = V.int 2) = true; decide)) (fun _ => ?_)⟩
      refine ⟨_, rfl, a, _, _, _, rfl, rfl, ha1, rfl, rfl, _, rfl, ite2 (fun _ => ?_) (fun z => absurd (by decide) z)⟩
      refine ⟨_, rfl, _, rfl, a, _, _, _, rfl, rfl, ha1, rfl, cd, c, ks, rfl, hc.same (k1 hp), c1, hw _ c1, fun H2 k2 => ⟨_, rfl, ite2 (fun _ => ?_) (fun z => absurd rfl z)⟩⟩
      exact ⟨_, rfl, a, _, _, _, rfl, rfl, sqT_same k2 ha1, rfl, _, rfl, j, 0, m - 1, rfl, j0, by omega, k _ (same_tr (k1 hp) k2)⟩
    | inside j c =>
      obtain ⟨c1, j0, j1⟩ := hn
      refine ⟨_, rfl, a, _, rfl, .inr ha, (by show 2 ≤ sizeLine; rw [sizeLine_eq]; decide), fun p hp => ⟨p, _, rfl, .inr (SqT.of upd_same), rfl, rfl, _, rfl, ite2 (fun z => absurd z (by show ¬ (!inV (.int ((3 : Nat) : Int)) [.int 2, .int 3]) = true; decide)) (fun _ => ?_)⟩⟩
      have ha1 := sqT_same (k1 hp) ha
      refine ⟨_, rfl, a, _, rfl, .inr ha1, rfl, _, rfl, ite2 (fun z => absurd z (by show ¬ decide (V.int ((3 : Nat) : Int) = V.int 2) = true; decide)) (fun _ => ?_)⟩
      refine ⟨_, rfl, a, _, _, _, rfl, rfl, ha1, rfl, rfl, _, rfl, ite2 (fun z => absurd z (by decide)) (fun _ => ?_)⟩
      refine ⟨_, rfl, a, _, _, _, rfl, rfl, ha1, rfl, rfl, _, rfl, ite2 (fun _ => ?_) (fun z => absurd (by decide) z)⟩
      refine ⟨_, rfl, a, _, _, _, rfl, rfl, ha1, rfl, _, rfl, j, 0, m - 1, rfl, j0, by omega, _, rfl, ite2 (fun _ => ?_) (fun z => absurd rfl z)⟩
      exact ⟨_, rfl, _, rfl, a, _, _, _, rfl, rfl, ha1, rfl, cd, c, ks, rfl, hc.same (k1 hp), c1, hw _ c1, fun H2 k2 => k _ (same_tr (k1 hp) k2)⟩
theorem scOpenQ : FnScope ["counts", "opening", "word", "kind", "given", "needs", "last", "need"] ["counts", "opening"] (defScope sOpenQ) := ⟨rfl, rfl, rfl, by decide +kernel, rfl, by decide +kernel, by decide +kernel⟩
def spOpenQ (K : PySem.W.Frag) : Sp := fun vs H Q _ => ∃ (cd a : Addr) (o : Opn) (ks : List (Str × Int)), vs = [.ref cd, .ref a] ∧ Cnt H cd ks ∧ (∀ p ∈ ks, p.1 ∈ WW) ∧ OpnAt K H a o ∧ OpnOk ks o ∧ ∀ H', Same H H' → Q (.bl true) H'
theorem ok_openQ {f fN fW fI fA : Addr} {fd dN dW dI dA : FuncData} (F : Fun K "_is_opening" "_is_opening" sOpenQ f fd) (T : TxtB K mg fW fI fA) (L : Lows P w K mg base fW fI fA dW dI dA)
    (G : FnOk P w K mg base CX0 3 fN dN ["counts", "last", "need"] (spNeedQ K)) (bG : Binds K dN ["counts", "last", "need"] []) (gN : mg "_is_need" = some (.ref fN)) (kN : PySem.W.keepIn K (.ref fN) = true) : FnOk P w K mg base CX0 4 f fd ["counts", "opening"] (spOpenQ K) := by
  refine F.ok scOpenQ (fun vs H Q E h => ?_) (fun cdv A outer s H vs Q E hr h => ?_)
  · obtain ⟨_, _, _, _, rfl, _⟩ := h
    rfl
  · obtain ⟨cd, a, o, ks, rfl, hc, hw, hoA, ok, k⟩ := h
    have hu := hu_of hr
    have hr1 : Room 1 _ := hr.mono (by decide)
    obtain ⟨b, as, ha, hb, hp⟩ := id hoA
    obtain ⟨m, hm, g0, g1, nl, hn⟩ := ok.ex
    refine ⟨_, pss_cons (ps_if (PW.pt (pw_or (pt_not (pt_val (pe_callB call_isi (by rfl) T.isi (by decide +kernel) (pa_cons (pv 1) (pa_cons (pe_bltn (v := .ty "tuple") rfl T.tuple (by decide +kernel) rfl) pa_nil)))))
        (pw_or1 (pt_cmpR op_ne (pe_callB call_len_seq (by rfl) T.len PySem.boot_len (pa_cons (pv 1) pa_nil)) pe_int (nomark _))))) (pss_one (ps_ret pe_bl)) pss_nil)
      (pss_cons (ps_asg (pv 1) (pg_tup rfl (pgs_cons (pg_name (i := 2) scOpenQ.nd rfl (.inl rfl)) (pgs_cons (pg_name (i := 3) scOpenQ.nd rfl (.inl rfl)) (pgs_cons (pg_name (i := 4) scOpenQ.nd rfl (.inl rfl)) (pgs_cons (pg_name (i := 5) scOpenQ.nd rfl (.inl rfl)) pgs_nil))))))
      (pss_cons (ps_if (PW.pt (pw_or (pt_not (pt_val (pe_call L.W hr1 rfl T.gW T.kW L.bW .nil pass0 (pa_cons (pv 2) pa_nil)))) (pw_or (pt_cmp (pc_din hu (pv 2) (pv 0)) (by with_unfolding_all rfl))
        (pw_or (pt_not (pt_val (pe_call L.W hr1 rfl T.gW T.kW L.bW .nil pass0 (pa_cons (pv 3) pa_nil)))) (pw_or1 (pt_cmp (pc_dnotin hu (pv 3) (pv 0)) (by with_unfolding_all rfl))))))) (pss_one (ps_ret pe_bl)) pss_nil)
      (pss_cons (ps_set (i := 6) scOpenQ.nd rfl (.inr rfl) (pe_op op_sub (pe_dget hu (pv 0) (pv 3) (fun _ _ => rfl)) pe_int))
      (pss_cons (ps_if (PW.pt (pw_or (pt_not (pt_val (pe_call L.I hr1 rfl T.gI T.kI L.bI .nil pass0 (pa_cons (pv 4) (pa_cons pe_int (pa_cons (pv 6) pa_nil))))))
        (pw_or (pt_not (pt_val (pe_callB call_isi (by rfl) T.isi (by decide +kernel) (pa_cons (pv 5) (pa_cons (pe_bltn (v := .ty "tuple") rfl T.tuple (by decide +kernel) rfl) pa_nil)))))
        (pw_or1 (pt_cmpR op_gt (pe_callB call_len_seq (by rfl) T.len PySem.boot_len (pa_cons (pv 5) pa_nil)) (C8.pe_gc (v := .int 2) rfl T.mostN) (nomark _)))))) (pss_one (ps_ret pe_bl)) pss_nil)
      (pss_one (ps_ret (pe_callB (cr_all rfl) (by rfl) T.all (by decide +kernel) (pa_cons (pe_lc (own := [("need", 7)]) (g := gName 7) (tt := tYes) rfl scOpenQ.nd (pi_tup (pv 5))
        (blkOk_by (own := [("need", 7)]) (N := ["counts", "opening", "word", "kind", "given", "needs", "last", "need"]) (sc := defScope sOpenQ) (by decide +kernel))
        (fun _ _ _ _ _ => pg_name (i := 7) scOpenQ.nd rfl (Or.inl rfl)) (fun _ _ _ _ _ => pts_nil) (fun _ _ _ _ _ => pe_call G hr rfl gN kN bG .nil pass0 (pa_cons (pv 0) (pa_cons (pv 6) (pa_cons (pv 7) pa_nil))))) pa_nil)))))))), ?_⟩
    refine ⟨_, rfl, _, _, _, _, true, rfl, .ty "tuple", sqT_ty ha, kit_ty rfl, _, rfl, ite2 (fun z => absurd z (by decide)) (fun _ => ?_)⟩
    refine ⟨_, rfl, a, _, rfl, .inr ha, rfl, _, rfl, ite2 (fun z => absurd z (by show ¬ (!decide (V.int ((4 : Nat) : Int) = V.int 4)) = true; decide)) (fun _ => ?_)⟩
    refine ⟨_, rfl, a, _, rfl, ha, rfl, _, _, rfl, _, _, rfl, _, _, rfl, _, _, rfl, rfl, ?_⟩
    refine ⟨_, rfl, o.w, ok.ww, rfl, fun H1 k1 => ⟨_, rfl, ite2 (fun z => absurd z (by decide)) (fun _ => ?_)⟩⟩
    obtain ⟨kvs, e1, yes, no⟩ := hc.same k1
    refine ⟨_, rfl, _, rfl, cd, none, rfl, .inl ⟨kvs, .inr o.w, .inl e1, rfl, (no _ ok.out).symm⟩, _, rfl, ite2 (fun z => absurd z (by decide)) (fun _ => ?_)⟩
    refine ⟨_, rfl, o.k, hw _ hm, rfl, fun H2 k2 => ⟨_, rfl, ite2 (fun z => absurd z (by decide)) (fun _ => ?_)⟩⟩
    have e2 := k2 _ _ e1
    have k02 := same_tr k1 k2
    have hkv : DGet H2 cd (.str o.k) (some (.int m)) := .inl ⟨kvs, .inr o.k, .inl e2, rfl, (yes _ hm).symm⟩
    refine ⟨_, rfl, _, rfl, cd, _, rfl, hkv, _, rfl, ite2 (fun z => absurd z (by show ¬ (!true) = true; decide)) (fun _ => ?_)⟩
    refine ⟨_, rfl, _, rfl, cd, _, rfl, hkv, _, _, rfl, rfl, ?_⟩
    have hb2 := sqT_same k02 hb
    have hpl := hp.length
    refine ⟨_, rfl, _, rfl, o.g, 0, m - 1, rfl, g0, by omega, _, rfl, ite2 (fun z => absurd z (by decide)) (fun _ => ?_)⟩
    refine ⟨_, rfl, _, _, _, _, true, rfl, .ty "tuple", sqT_ty hb2, kit_ty rfl, _, rfl, ite2 (fun z => absurd z (by decide)) (fun _ => ?_)⟩
    refine ⟨_, rfl, b, _, rfl, .inr hb2, _, _, rfl, rfl, _, rfl, ite2 (fun z => ?_) (fun _ => ?_)⟩
    · have z := of_decide_eq_true z
      rw [List.length_map] at z
      omega
    refine ⟨_, rfl, b, rfl, ⟨_, hb2⟩, fun D hD => ?_⟩
    refine lc_tup (K := K) (a := b) (xs := as.map V.ref) (fun i H' => H' D = some (.lst ((List.replicate i true).map V.bl)) ∧ Same H2 H') ⟨upd_same, same_new same_rfl hD⟩ (fun i H' _ h => sqT_same h.2 hb2) ?_ ?_
    · rintro i y H3 hi ⟨e3, s3⟩
      rw [List.getElem?_map] at hi
      obtain ⟨x, hx, rfl⟩ := Option.map_eq_some_iff.mp hi
      obtain ⟨n, hnn, hq⟩ := paired_at hp hx
      have il : i < as.length := (List.getElem?_eq_some_iff.mp hx).1
      refine ⟨rfl, ?_⟩
      unfold tYes
      dsimp only
      rw [if_pos rfl]
      refine ⟨_, rfl, _, rfl, _, rfl, cd, x, m, n, ks, rfl, hc.same (same_tr k02 s3), hw, sqT_same (same_tr k02 s3) hq, hn n (List.mem_of_getElem? hnn), fun H4 s4 => ⟨_, s4 _ _ e3, ?_, ?_, ?_⟩⟩
      · rw [List.length_map, List.length_replicate, sizeLine_eq]
        omega
      · rw [upd_same, rep_snoc]
      · exact fun b o e => (upd_ne (ne_of_none e hD)).trans (s4 _ _ (s3 _ _ e))
    · rintro H3 ⟨e3, s3⟩
      refine ⟨D, _, rfl, SqL.of e3, ?_⟩
      rw [rep_all]
      exact k _ (same_tr k02 s3)
theorem scOpens : FnScope ["counts", "openings", "right", "opening"] ["counts", "openings"] (defScope sOpens) := ⟨rfl, rfl, rfl, by decide +kernel, rfl, by decide +kernel, by decide +kernel⟩
def spOpens (K : PySem.W.Frag) : Sp := fun vs H Q _ => ∃ (cd oo : Addr) (as : List Addr) (os : List Opn) (ks : List (Str × Int)), vs = [.ref cd, .ref oo] ∧ Cnt H cd ks ∧ (∀ p ∈ ks, p.1 ∈ WW) ∧ OpnsAt K H oo as os ∧ OsOk ks os ∧ ∀ H', Same H H' → Q (.bl true) H'
theorem ok_opens {f fQ fW fI fA : Addr} {fd dQ dW dI dA : FuncData} (F : Fun K "_are_openings" "_are_openings" sOpens f fd) (T : TxtB K mg fW fI fA) (L : Lows P w K mg base fW fI fA dW dI dA)
    (G : FnOk P w K mg base CX0 4 fQ dQ ["counts", "opening"] (spOpenQ K)) (bG : Binds K dQ ["counts", "opening"] []) (gQ : mg "_is_opening" = some (.ref fQ)) (kQ : PySem.W.keepIn K (.ref fQ) = true) : FnOk P w K mg base CX0 5 f fd ["counts", "openings"] (spOpens K) := by
  refine F.ok scOpens (fun vs H Q E h => ?_) (fun cdv A outer s H vs Q E hr h => ?_)
  · obtain ⟨_, _, _, _, _, rfl, _⟩ := h
    rfl
  · obtain ⟨cd, oo, as, os, ks, rfl, hc, hw, hA, ok, k⟩ := h
    have hr1 : Room 1 _ := hr.mono (by decide)
    have hl := hA.each.length
    have hlen := ok.len
    refine ⟨_, pss_cons (ps_if (pt_not (pt_val (pe_callB call_isi (by rfl) T.isi (by decide +kernel) (pa_cons (pv 1) (pa_cons (pe_bltn (v := .ty "tuple") rfl T.tuple (by decide +kernel) rfl) pa_nil))))) (pss_one (ps_ret pe_bl)) pss_nil)
      (pss_cons (ps_set (i := 2) scOpens.nd rfl (.inl rfl) (pe_callB (cr_all rfl) (by rfl) T.all (by decide +kernel) (pa_cons (pe_lc (own := [("opening", 3)]) (g := gName 3) (tt := tYes) rfl scOpens.nd (pi_tup (pv 1))
        (blkOk_by (own := [("opening", 3)]) (N := ["counts", "openings", "right", "opening"]) (sc := defScope sOpens) (by decide +kernel))
        (fun _ _ _ _ _ => pg_name (i := 3) scOpens.nd rfl (Or.inl rfl)) (fun _ _ _ _ _ => pts_nil) (fun _ _ _ _ _ => pe_call G hr rfl gQ kQ bG .nil pass0 (pa_cons (pv 0) (pa_cons (pv 3) pa_nil)))) pa_nil)))
      (pss_one (ps_ret (pe_and (pv 2) (pe_one (pe_call L.A hr1 rfl T.gA T.kA L.bA .nil pass0 (pa_cons (pe_lc (own := [("opening", 3)]) (g := gName 3) (tt := tYes) rfl scOpens.nd (pi_tup (pv 1))
        (blkOk_by (own := [("opening", 3)]) (N := ["counts", "openings", "right", "opening"]) (sc := defScope sOpens) (by decide +kernel))
        (fun _ _ _ _ _ => pg_name (i := 3) scOpens.nd rfl (Or.inl rfl)) (fun _ _ _ _ _ => pts_nil) (fun _ _ _ _ _ => pe_ix (show IxR _ (rIxT K) from ix_tup) (pv 3) pe_int (fun _ _ => rfl))) pa_nil))))))), ?_⟩
    refine ⟨_, rfl, _, _, _, _, true, rfl, .ty "tuple", sqT_ty hA.at_, kit_ty rfl, _, rfl, ite2 (fun z => absurd z (by decide)) (fun _ => ?_)⟩
    refine ⟨_, rfl, oo, rfl, ⟨_, hA.at_⟩, fun D hD => ?_⟩
    refine lc_tup (K := K) (a := oo) (xs := as.map V.ref) (fun i H' => H' D = some (.lst ((List.replicate i true).map V.bl)) ∧ Same H H') ⟨upd_same, same_new same_rfl hD⟩ (fun i H' _ h => sqT_same h.2 hA.at_) ?_ ?_
    · rintro i y H1 hi ⟨e1, s1⟩
      rw [List.getElem?_map] at hi
      obtain ⟨a, ha, rfl⟩ := Option.map_eq_some_iff.mp hi
      obtain ⟨o, ho, hq⟩ := paired_at hA.each ha
      have il : i < as.length := (List.getElem?_eq_some_iff.mp ha).1
      refine ⟨rfl, ?_⟩
      unfold tYes
      dsimp only
      rw [if_pos rfl]
      refine ⟨_, rfl, _, rfl, cd, a, o, ks, rfl, hc.same s1, hw, OpnAt.same s1 hq, ok.each o (List.mem_of_getElem? ho), fun H2 s2 => ⟨_, s2 _ _ e1, ?_, ?_, ?_⟩⟩
      · rw [List.length_map, List.length_replicate, sizeLine_eq]
        omega
      · rw [upd_same, rep_snoc]
      · exact fun b o e => (upd_ne (ne_of_none e hD)).trans (s2 _ _ (s1 _ _ e))
    · rintro H1 ⟨e1, s1⟩
      refine ⟨D, _, rfl, SqL.of e1, ?_⟩
      rw [rep_all]
      refine ⟨_, rfl, _, rfl, ite2 (fun _ => ?_) (fun z => absurd rfl z)⟩
      have hA1 := hA.same s1
      refine ⟨_, rfl, oo, rfl, ⟨_, hA1.at_⟩, fun E1 hE => ?_⟩
      refine lc_tup (K := K) (a := oo) (xs := as.map V.ref) (fun i H' => H' = upd H1 E1 (.lst (((os.take i).map (·.w)).map V.str))) rfl (fun i H' _ h => by rw [h]; exact sqT_same (same_new same_rfl hE) hA1.at_) ?_ ?_
      · rintro i y H2 hi rfl
        rw [List.getElem?_map] at hi
        obtain ⟨a, ha, rfl⟩ := Option.map_eq_some_iff.mp hi
        obtain ⟨o, ho, b, bs, hq, _⟩ := paired_at hA1.each ha
        have il : i < os.length := (List.getElem?_eq_some_iff.mp ho).1
        refine ⟨rfl, ?_⟩
        unfold tYes
        dsimp only
        rw [if_pos rfl]
        refine ⟨_, rfl, a, _, _, _, rfl, rfl, sqT_same (same_new same_rfl hE) hq, rfl, _, upd_same, ?_, ?_⟩
        · rw [List.length_map, List.length_map, List.length_take, sizeLine_eq]
          omega
        · rw [upd_upd, List.take_add_one, ho, List.map_append, List.map_append]
          rfl
      · rintro H2 rfl
        rw [List.length_map, hl, List.take_of_length_le (Nat.le_refl _)]
        exact ⟨E1, os.map (·.w), rfl, upd_same, by rw [List.length_map]; omega, ok.asc, fun H3 s3 => k H3 (same_tr (same_new s1 hE) s3)⟩
end
end K05

set_option Elab.async false
set_option linter.all false
set_option maxRecDepth 100000
set_option maxHeartbeats 4000000
/-! Book(kinds, openings). -/
namespace K05
open PySem PySem.Spec PyProof.Rows L2 Mine
abbrev sInit : Stmt := inClass (top 16) 0
abbrev sNd : Stmt := top 25
abbrev sNeeded : Stmt := inClass (top 16) 6
abbrev fsB (kk oo : Addr) : List (Str × V) := [(PySem.Str.ofString "kinds", .ref kk), (PySem.Str.ofString "openings", .ref oo)]
def spInit (K : PySem.W.Frag) (C : Addr) : Sp := fun vs H Q _ => ∃ (x dx kk oo : Addr) (ps as : List Addr) (ks : List (Str × Int)) (os : List Opn), vs = [.ref x, .ref kk, .ref oo] ∧ H x = some (.ins C dx []) ∧ KindsAt K H kk ps ks ∧ KsOk ks ∧ OpnsAt K H oo as os ∧ OsOk ks os ∧
  ∀ H', (∀ b o, b ≠ x → H b = some o → H' b = some o) → H' x = some (.ins C dx (fsB kk oo)) → Q .non H'
structure TxtI (K : PySem.W.Frag) (mg : Str → Option Value) (C fKs fOs : Addr) : Prop where
  cl : Cls K C
  nK : NoAttr K C "kinds"
  nO : NoAttr K C "openings"
  gKs : mg "_are_kinds" = some (.ref fKs)
  kKs : PySem.W.keepIn K (.ref fKs) = true
  gOs : mg "_are_openings" = some (.ref fOs)
  kOs : PySem.W.keepIn K (.ref fOs) = true
theorem ps_dead {X : Cx} {st : Stmt} : PS X st (fun _ _ _ => False) := ⟨fun _ _ _ _ _ _ h => h.elim⟩
section
variable {P : Program} {w : World} {K : PySem.W.Frag} {mg : Str → Option Value} {base : Heap}
theorem scInit : FnScope ["self", "kinds", "openings"] ["self", "kinds", "openings"] (defScope sInit) := ⟨rfl, rfl, rfl, by decide +kernel, rfl, by decide +kernel, by decide +kernel⟩
theorem ok_init {f C fKs fOs fW fI fA : Addr} {fd dKs dOs : FuncData} (F : Fun K "__init__" "Book.__init__" sInit f fd) (T : TxtI K mg C fKs fOs) (TW : TxtW mg) (GK : FnOk P w K mg base CX0 3 fKs dKs ["kinds"] (spKinds K)) (bK : Binds K dKs ["kinds"] [])
    (GO : FnOk P w K mg base CX0 5 fOs dOs ["counts", "openings"] (spOpens K)) (bO : Binds K dOs ["counts", "openings"] []) : FnOk P w K mg base CX0 6 f fd ["self", "kinds", "openings"] (spInit K C) := by
  refine F.ok scInit (fun vs H Q E h => ?_) (fun cdv A outer s H vs Q E hr h => ?_)
  · obtain ⟨_, _, _, _, _, _, _, _, rfl, _⟩ := h
    rfl
  · obtain ⟨x, dx, kk, oo, ps, as, ks, os, rfl, hx, hk, kok, ho, ook, k⟩ := h
    have hr3 : Room 3 _ := hr.mono (by decide)
    refine ⟨_, pss_cons (ps_if (pt_not (pt_val (pe_call GK hr3 rfl T.gKs T.kKs bK .nil pass0 (pa_cons (pv 1) pa_nil)))) (pss_one ps_dead) pss_nil)
      (pss_cons (ps_if (pt_not (pt_val (pe_call GO hr rfl T.gOs T.kOs bO .nil pass0 (pa_cons (pe_callTy (call_dictPT rfl) (by rfl) TW.dict (by decide +kernel) (pa_cons (pv 1) pa_nil)) (pa_cons (pv 2) pa_nil))))) (pss_one ps_dead) pss_nil)
      (pss_cons (ps_fld (pv 0) (pv 1) rfl) (pss_one (ps_fld (pv 0) (pv 2) rfl)))), ?_⟩
    refine ⟨_, rfl, kk, ps, ks, rfl, hk, kok, fun H1 k1 => ⟨_, rfl, ite2 (fun z => absurd z (by decide)) (fun _ => ?_)⟩⟩
    have hk1 := hk.same k1
    refine ⟨_, rfl, kk, ps, _, rfl, hk1.at_, paired_kv hk1.each, fun p hp => ⟨_, rfl, p, oo, as, os, ks, rfl, cnt_new kok.nd, kok.ww, ho.same (same_new k1 hp), ook, fun H2 k2 => ⟨_, rfl, ite2 (fun z => absurd z (by decide)) (fun _ => ?_)⟩⟩⟩
    have k02 := same_tr (same_new k1 hp) k2
    have hx2 := k02 _ _ hx
    refine ⟨_, rfl, _, rfl, x, C, dx, [], rfl, hx2, T.cl, T.nK, (by show 0 < 1000; decide), _, rfl, _, rfl, x, C, dx, _, rfl, upd_same, T.cl, T.nO, (by show 1 < 1000; decide), ?_⟩
    rw [upd_upd]
    exact k _ (fun b o hb e => (upd_ne hb).trans (k02 _ _ e)) upd_same
end
/-! what a need asks for -/
def wantD : Nd → List PyData → Option PyData
  | .part j, ds => ds[j.toNat]?
  | .around c j, ds => (ds[j.toNat]?).map fun d => .tuple [.str c, d]
  | .inside j c, ds => (ds[j.toNat]?).bind fun d => match d with
    | .tuple (.str c' :: d1 :: _) => if c' = c then some d1 else none
    | _ => none
def optD : Option PyData → PyData
  | some d => d
  | none => .none
def allSome : List (Option PyData) → Option (List PyData)
  | [] => some []
  | none :: _ => none
  | some d :: r => (allSome r).map (d :: ·)
def needD (nn : List Nd) (ds : List PyData) : PyData := match allSome (nn.map fun n => wantD n ds) with
  | some l => .tuple l
  | none => .none
structure WOk (d : PyData) : Prop where
  non : NonN d
  lay : d.canLay0 = true
  dep : d.depth ≤ 20
/-- the parts of a thing -/
def PartsOk (ds : List PyData) : Prop := ∀ d ∈ ds, ThingOk d ∧ d.depth ≤ 10
theorem want_ok {n : Nd} {ds : List PyData} {d : PyData} {ks : List (Str × Int)} {m : Int} (hp : PartsOk ds) (hn : NdOk m ks n) (hk : ∀ p ∈ ks, PyData.strOk p.1 = true) (h : wantD n ds = some d) : WOk d := by
  cases n with
  | part j =>
    have hm := List.mem_of_getElem? h
    obtain ⟨h1, h2⟩ := hp d hm
    exact ⟨h1.nonN, h1.lay, by omega⟩
  | around c j =>
    obtain ⟨e, he, rfl⟩ := Option.map_eq_some_iff.mp h
    have hm := List.mem_of_getElem? he
    obtain ⟨h1, h2⟩ := hp e hm
    refine ⟨.inr ⟨_, rfl⟩, ?_, ?_⟩
    · simp only [PyData.canLay0, PyData.canLayAll0, Bool.and_eq_true]
      exact ⟨hk _ hn.1, h1.lay, trivial⟩
    · simp only [PyData.depth, PyData.depthAll]
      omega
  | inside j c =>
    obtain ⟨e, he, h⟩ := Option.bind_eq_some_iff.mp h
    have hm := List.mem_of_getElem? he
    obtain ⟨h1, h2⟩ := hp e hm
    rcases h1.shape with ⟨c', rfl⟩ | ⟨c', d1, dr, rfl, hd1⟩
    · cases h
    · dsimp only at h
      by_cases hc : c' = c
      · rw [if_pos hc] at h
        cases h
        have hl := h1.lay
        simp only [PyData.canLay0, PyData.canLayAll0, Bool.and_eq_true] at hl
        simp only [PyData.depth, PyData.depthAll] at h2
        exact ⟨hd1, hl.2.1, by omega⟩
      · rw [if_neg hc] at h
        cases h
structure TxtN (mg : Str → Option Value) : Prop where
  isi : mg "isinstance" = none
  tuple : mg "tuple" = none
section
variable {P : Program} {w : World} {K : PySem.W.Frag} {mg : Str → Option Value} {base : Heap}
theorem scNd : FnScope ["need", "thing", "part"] ["need", "thing"] (defScope sNd) := ⟨rfl, rfl, rfl, by decide +kernel, rfl, by decide +kernel, by decide +kernel⟩
/-- the thing: a tuple of a kind and its parts -/
def ThAt (H : Hp) (th : Addr) (c : Str) (ds : List PyData) : Prop := ∃ vs, H th = some (.tup (.str c :: vs)) ∧ DKs H vs ds
theorem ThAt.same {H H' : Hp} {th : Addr} {c : Str} {ds : List PyData} (k : Same H H') (h : ThAt H th c ds) : ThAt H' th c ds := let ⟨vs, e, r⟩ := h; ⟨vs, k _ _ e, DKs.keeps k _ _ r⟩
theorem nonN_v {H : Hp} {v : V} {d : PyData} (h : DK H v d) (n : NonN d) : v ≠ .non := by
  rcases n with ⟨c, rfl⟩ | ⟨ds, rfl⟩
  · cases h
    exact fun z => by cases z
  · cases h
    exact fun z => by cases z
/-- what stood in Hb, and what is new since H -/
def Jn (Hb H H' : Hp) : Hp := fun b => if H b = none then H' b else Hb b
theorem Jn.old {Hb H H' : Hp} (k : Same Hb H) : ∀ b o, Hb b = some o → Jn Hb H H' b = some o := fun b o e => by
  unfold Jn
  rw [if_neg (by rw [k _ _ e]; simp)]
  exact e
theorem Jn.new {Hb H H' : Hp} {b : Addr} {o : HO} (h : H b = none) (e : H' b = some o) : Jn Hb H H' b = some o := by
  unfold Jn
  rw [if_pos h]
  exact e
theorem Jn.of {Hb H H' : Hp} {b : Addr} {o : HO} (e : Jn Hb H H' b = some o) : (H b = none ∧ H' b = some o) ∨ Hb b = some o := by
  unfold Jn at e
  by_cases h : H b = none
  · rw [if_pos h] at e
    exact .inl ⟨h, e⟩
  · rw [if_neg h] at e
    exact .inr e
def spNd (K : PySem.W.Frag) : Sp := fun vs H Q _ => ∃ (a th : Addr) (n : Nd) (c : Str) (ds : List PyData) (m : Int) (ks : List (Str × Int)) (Hb : Hp), vs = [.ref a, .ref th] ∧ SqT K H a (ndV n) ∧ NdOk m ks n ∧ (ds.length : Int) = m ∧ ThAt Hb th c ds ∧ Same Hb H ∧ PartsOk ds ∧
  ∀ v H', Same H H' → DK (Jn Hb H H') v (optD (wantD n ds)) → Q v H'
theorem dks_get {H : Hp} {vs : List V} {ds : List PyData} {j m : Int} (r : DKs H vs ds) (hl : (ds.length : Int) = m) (h0 : 0 ≤ j) (h1 : j < m) (c : V) : ∃ v d, atI (c :: vs) (j + 1) = some v ∧ ds[j.toNat]? = some d ∧ DK H v d := by
  obtain ⟨i, rfl⟩ := Int.eq_ofNat_of_zero_le h0
  have hv := r.len
  have hi : i < vs.length := by omega
  obtain ⟨d, hd, hk⟩ := dks_at r (List.getElem?_eq_getElem hi)
  refine ⟨vs[i], d, ?_, by simpa using hd, hk⟩
  have e : ((i : Int) + 1) = ((i + 1 : Nat) : Int) := by omega
  rw [e]
  exact atI_nat (by rw [List.getElem?_cons_succ, List.getElem?_eq_getElem hi])
theorem at0 {x : V} {r : List V} : atI (x :: r) 0 = some x := by
  have e : (0 : Int) = ((0 : Nat) : Int) := rfl
  rw [e]
  exact atI_nat rfl
theorem at1 {x y : V} {r : List V} : atI (x :: y :: r) 1 = some y := by
  have e : (1 : Int) = ((1 : Nat) : Int) := rfl
  rw [e]
  exact atI_nat rfl
theorem ok_nd {f : Addr} {fd : FuncData} (F : Fun K "_needed_thing" "_needed_thing" sNd f fd) (T : TxtN mg) : FnOk P w K mg base CX0 1 f fd ["need", "thing"] (spNd K) := by
  refine F.ok scNd (fun vs H Q E h => ?_) (fun cdv A outer s H vs Q E hr h => ?_)
  · obtain ⟨_, _, _, _, _, _, _, _, rfl, _⟩ := h
    rfl
  · obtain ⟨a, th, n, c, ds, m, ks, Hb, rfl, ha, hn, hm, ⟨vs, et, hvs⟩, sb, hp, k⟩ := h
    refine ⟨_, pss_cons (ps_if (pt_cmpR op_eq (pe_ix ix_tup (pv 0) pe_int (fun _ _ => rfl)) pe_str (nomark _)) (pss_one (ps_ret (pe_ix ix_tup (pv 1) (pe_op op_add (pe_ix ix_tup (pv 0) pe_int (fun _ _ => rfl)) pe_int) (fun _ _ => rfl)))) pss_nil)
      (pss_cons (ps_if (pt_cmpR op_eq (pe_ix ix_tup (pv 0) pe_int (fun _ _ => rfl)) pe_str (nomark _)) (pss_one (ps_ret (pe_tup (pa_cons (pe_ix ix_tup (pv 0) pe_int (fun _ _ => rfl)) (pa_cons (pe_ix ix_tup (pv 1) (pe_op op_add (pe_ix ix_tup (pv 0) pe_int (fun _ _ => rfl)) pe_int) (fun _ _ => rfl)) pa_nil))))) pss_nil)
      (pss_cons (ps_set (i := 2) scNd.nd rfl (.inl rfl) (pe_ix ix_tup (pv 1) (pe_op op_add (pe_ix ix_tup (pv 0) pe_int (fun _ _ => rfl)) pe_int) (fun _ _ => rfl)))
      (pss_one (ps_ret (pe_ifExp (PW.pt (pw_and (pt_val (pe_callB call_isi (by rfl) T.isi (by decide +kernel) (pa_cons (pv 2) (pa_cons (pe_bltn (v := .ty "tuple") rfl T.tuple (by decide +kernel) rfl) pa_nil))))
        (pw_and1 (pt_cmpR op_eq (pe_ix ix_tup (pv 2) pe_int (fun _ _ => rfl)) (pe_ix ix_tup (pv 0) pe_int (fun _ _ => rfl)) (nomark _))))) (pe_ix ix_tup (pv 2) pe_int (fun _ _ => rfl)) pe_non))))), ?_⟩
    have ht : SqT K H th (.str c :: vs) := SqT.of (sb _ _ et)
    have up : ∀ {H' : Hp} {v : V} {d : PyData}, DK Hb v d → DK (Jn Hb H H') v d := fun h => DK.keeps (Jn.old sb) _ _ h
    cases n with
    | part j =>
      obtain ⟨j0, j1⟩ := hn
      obtain ⟨v, d, hv, hd, hk⟩ := dks_get hvs hm j0 j1 (.str c)
      refine ⟨_, rfl, a, _, _, _, rfl, rfl, ha, rfl, rfl, _, rfl, ite2 (fun _ => ?_) (fun z => absurd (by decide) z)⟩
      refine ⟨_, rfl, _, rfl, a, _, _, _, rfl, rfl, ha, rfl, _, _, rfl, rfl, th, _, _, _, rfl, rfl, ht, hv, k _ _ same_rfl ?_⟩
      show DK _ v (optD (ds[j.toNat]?))
      rw [hd]
      exact up hk
    | around cc j =>
      obtain ⟨c1, j0, j1⟩ := hn
      obtain ⟨v, d, hv, hd, hk⟩ := dks_get hvs hm j0 j1 (.str c)
      refine ⟨_, rfl, a, _, _, _, rfl, rfl, ha, rfl, rfl, _, rfl, ite2 (fun z => absurd z (by decide)) (fun _ => ?_)⟩
      refine ⟨_, rfl, a, _, _, _, rfl, rfl, ha, rfl, rfl, _, rfl, ite2 (fun _ => ?_) (fun z => absurd (by decide) z)⟩
      refine ⟨_, rfl, a, _, _, _, rfl, rfl, ha, rfl, _, rfl, _, rfl, a, _, _, _, rfl, rfl, ha, rfl, _, _, rfl, rfl, th, _, _, _, rfl, rfl, ht, hv, (by show 2 ≤ sizeLine; rw [sizeLine_eq]; decide), fun q hq => k _ _ (same_new same_rfl hq) ?_⟩
      show DK _ (.ref q) (optD ((ds[j.toNat]?).map fun d => .tuple [.str cc, d]))
      rw [hd]
      exact .tup (Jn.new hq upd_same) (.cons (.str _) (.cons (up hk) .nil))
    | inside j cc =>
      obtain ⟨c1, j0, j1⟩ := hn
      obtain ⟨v, d, hv, hd, hk⟩ := dks_get hvs hm j0 j1 (.str c)
      refine ⟨_, rfl, a, _, _, _, rfl, rfl, ha, rfl, rfl, _, rfl, ite2 (fun z => absurd z (by decide)) (fun _ => ?_)⟩
      refine ⟨_, rfl, a, _, _, _, rfl, rfl, ha, rfl, rfl, _, rfl, ite2 (fun z => absurd z (by decide)) (fun _ => ?_)⟩
      refine ⟨_, rfl, _, rfl, a, _, _, _, rfl, rfl, ha, rfl, _, _, rfl, rfl, th, _, _, _, rfl, rfl, ht, hv, ?_⟩
      have hpd := (hp d (List.mem_of_getElem? hd)).1
      rcases hpd.shape with ⟨c', rfl⟩ | ⟨c', d1, dr, rfl, hd1⟩
      · cases hk
        refine ⟨_, rfl, _, _, _, _, false, rfl, .ty "tuple", .base (.str _), kit_ty (by decide +kernel), _, rfl, ite2 (fun z => absurd z (by decide)) (fun _ => ?_)⟩
        refine ite2 (fun z => absurd z (by decide)) (fun _ => k _ _ same_rfl ?_)
        show DK _ .non (optD ((ds[j.toNat]?).bind _))
        rw [hd]
        exact .non
      · cases hk with
        | tup e1 r1 =>
          cases r1 with
          | cons h1 r1 =>
            cases h1
            cases r1 with
            | cons h2 r2 =>
              refine ⟨_, rfl, _, _, _, _, true, rfl, .ty "tuple", .base (.tup (sb _ _ e1)), kit_ty rfl, _, rfl, ite2 (fun _ => ?_) (fun z => absurd rfl z)⟩
              refine ⟨_, rfl, _, _, _, .str c', rfl, rfl, SqT.of (sb _ _ e1), at0, _, rfl, a, _, _, .str cc, rfl, rfl, ha, rfl, rfl, _, rfl, ite2 (fun hb => ?_) (fun hb => ?_)⟩
              · have hcc : c' = cc := by
                  have z := of_decide_eq_true hb
                  injection z
                refine ⟨_, rfl, _, _, _, _, rfl, rfl, SqT.of (sb _ _ e1), at1, k _ _ same_rfl ?_⟩
                show DK _ _ (optD ((ds[j.toNat]?).bind _))
                rw [hd]
                show DK _ _ (optD (if c' = cc then some d1 else none))
                rw [if_pos hcc]
                exact up h2
              · have hcc : ¬ c' = cc := fun z => hb (by rw [z]; exact decide_eq_true rfl)
                refine k _ _ same_rfl ?_
                show DK _ _ (optD ((ds[j.toNat]?).bind _))
                rw [hd]
                show DK _ _ (optD (if c' = cc then some d1 else none))
                rw [if_neg hcc]
                exact .non
end
end K05

set_option Elab.async false
set_option linter.all false
set_option maxRecDepth 100000
set_option maxHeartbeats 4000000
/-! What an opening needs: by the book, by the law. -/
namespace K05
open PySem PySem.Spec PyProof.Rows L2 Mine
abbrev sWanted : Stmt := top 37
abbrev sDue : Stmt := top 38
theorem allSome_snoc (x : Option PyData) : ∀ a : List (Option PyData), allSome (a ++ [x]) = (allSome a).bind fun l => x.map fun d => l ++ [d]
  | [] => by cases x <;> rfl
  | none :: r => rfl
  | some d :: r => by
    show (allSome (r ++ [x])).map (d :: ·) = ((allSome r).map (d :: ·)).bind _
    rw [allSome_snoc x r]
    cases allSome r <;> cases x <;> rfl
theorem allSome_none : ∀ {a : List (Option PyData)} {i : Nat}, a[i]? = some none → allSome a = none
  | none :: r, _, _ => rfl
  | some d :: r, 0, h => by cases h
  | some d :: r, i + 1, h => by
    show (allSome r).map _ = none
    rw [allSome_none (a := r) (i := i) h]
    rfl
theorem eqv_non {d : PyData} (h : NonN d) : PyData.eqv d .none = false := by
  rcases h with ⟨c, rfl⟩ | ⟨ds, rfl⟩ <;> simp [PyData.eqv]
theorem any_non : ∀ (a : List (Option PyData)), (∀ d, some d ∈ a → WOk d) → ((a.map optD).any fun z => PyData.eqv z .none) = (allSome a).isNone ∧ ∀ l, allSome a = some l → a.map optD = l
  | [], _ => ⟨rfl, fun l h => by cases h; rfl⟩
  | none :: r, _ => ⟨by simp [optD, allSome, PyData.eqv], fun l h => by cases h⟩
  | some d :: r, h => by
    obtain ⟨h1, h2⟩ := any_non r fun e he => h e (List.mem_cons_of_mem _ he)
    have hd := h d (List.mem_cons_self ..)
    refine ⟨?_, fun l e => ?_⟩
    · rw [List.map_cons, List.any_cons, h1]
      show (PyData.eqv d .none || _) = ((allSome r).map _).isNone
      rw [eqv_non hd.non]
      cases allSome r <;> rfl
    · have e : (allSome r).map (d :: ·) = some l := e
      obtain ⟨l', e1, rfl⟩ := Option.map_eq_some_iff.mp e
      rw [List.map_cons, h2 l' e1]
      rfl
theorem opt_lay : ∀ (a : List (Option PyData)), (∀ d, some d ∈ a → WOk d) → PyData.canLayAll0 (a.map optD) = true ∧ PyData.depthAll (a.map optD) ≤ 20
  | [], _ => by simp [PyData.canLayAll0, PyData.depthAll]
  | none :: r, h => by
    obtain ⟨h1, h2⟩ := opt_lay r fun e he => h e (List.mem_cons_of_mem _ he)
    refine ⟨?_, ?_⟩
    · simp only [List.map_cons, optD, PyData.canLayAll0, PyData.canLay0, h1]
      rfl
    · simp only [List.map_cons, optD, PyData.depthAll, PyData.depth]
      omega
  | some d :: r, h => by
    obtain ⟨h1, h2⟩ := opt_lay r fun e he => h e (List.mem_cons_of_mem _ he)
    have hd := h d (List.mem_cons_self ..)
    have h3 := hd.dep
    refine ⟨?_, ?_⟩
    · simp only [List.map_cons, optD, PyData.canLayAll0, hd.lay, h1]
      rfl
    · simp only [List.map_cons, optD, PyData.depthAll]
      omega
theorem shaped_of {ds : List PyData} (h1 : PyData.canLayAll0 ds = true) (h2 : PyData.depthAll ds ≤ 20) : SeqAt.shaped (.list ds) = true := by
  show (PyData.canLay0 (.list ds) && decide (PyData.depth (.list ds) ≤ 64)) = true
  rw [Bool.and_eq_true]
  refine ⟨by simp only [PyData.canLay0]; exact h1, decide_eq_true ?_⟩
  simp only [PyData.depth]
  omega
theorem paired_ta {α β : Type} {R : α → β → Prop} : ∀ {as : List α} {bs : List β} {i : Nat} {b : β}, Paired R as bs → bs[i]? = some b → ∃ a, as[i]? = some a ∧ R a b
  | _, _, 0, b, .cons h _, e => ⟨_, rfl, by cases e; exact h⟩
  | _, _, i + 1, b, .cons _ r, e => by
    obtain ⟨a, e1, h1⟩ := paired_ta r (i := i) e
    exact ⟨a, e1, h1⟩
def spNeeded (K : PySem.W.Frag) (C : Addr) : Sp := fun vs H Q _ => ∃ (x dx kk oo th : Addr) (as : List Addr) (os : List Opn) (o : Opn) (i0 : Nat) (c : Str) (ds : List PyData) (m : Int) (ks : List (Str × Int)), vs = [.ref x, .str o.w, .ref th] ∧ H x = some (.ins C dx (fsB kk oo)) ∧ OpnsAt K H oo as os ∧
  os[i0]? = some o ∧ (os.map (·.w)).Nodup ∧ (∀ n ∈ o.nn, NdOk m ks n) ∧ o.nn.length ≤ 2 ∧ (∀ p ∈ ks, PyData.strOk p.1 = true) ∧ (ds.length : Int) = m ∧ ThAt H th c ds ∧ PartsOk ds ∧ os.length ≤ 20 ∧ ∀ v H', Same H H' → DK H' v (needD o.nn ds) → Q v H'
structure TxtM (K : PySem.W.Frag) (mg : Str → Option Value) (C fN : Addr) : Prop extends TxtN mg where
  cl : Cls K C
  nK : NoAttr K C "kinds"
  nO : NoAttr K C "openings"
  gN : mg "_needed_thing" = some (.ref fN)
  kN : PySem.W.keepIn K (.ref fN) = true
abbrev nNeeded : List Str := ["self", "opening", "thing", "needs", "found", "row", "need"]
section
variable {P : Program} {w : World} {K : PySem.W.Frag} {mg : Str → Option Value} {base : Heap}
theorem scNeeded : FnScope nNeeded ["self", "opening", "thing"] (defScope sNeeded) := ⟨rfl, rfl, rfl, by decide +kernel, rfl, by decide +kernel, by decide +kernel⟩
theorem ok_needed {f C fN : Addr} {fd dN : FuncData} (F : Fun K "needed" "Book.needed" sNeeded f fd) (T : TxtM K mg C fN) (G : FnOk P w K mg base CX0 1 fN dN ["need", "thing"] (spNd K)) (bG : Binds K dN ["need", "thing"] []) :
    FnOk P w K mg base CX0 2 f fd ["self", "opening", "thing"] (spNeeded K C) := by
  refine F.ok scNeeded (fun vs H Q E h => ?_) (fun cdv A outer s H vs Q E hr h => ?_)
  · obtain ⟨_, _, _, _, _, _, _, _, _, _, _, _, _, rfl, _⟩ := h
    rfl
  · obtain ⟨x, dx, kk, oo, th, as, os, o, i0, c, ds, m, ks, rfl, hx, hO, ho, nd, hn, nl, kl, hm, hT, hp, ol, k⟩ := h
    have h65 : (A.deeper (envOfC "Book.needed" (defScope sNeeded) s.heap.objs.size f cdv)).units + 65 < cLine := by
      have := hr.un
      omega
    refine ⟨_, pss_cons (ps_set (i := 3) scNeeded.nd rfl (.inl rfl) (pe_ix ix_list (pe_lc (own := [("row", 5)]) (g := gName 5) rfl scNeeded.nd (pi_tup (pe_fld (pv 0) rfl))
        (blkOk_by (own := [("row", 5)]) (N := nNeeded) (sc := defScope sNeeded) (by decide +kernel))
        (fun _ _ _ _ _ => pg_name (i := 5) scNeeded.nd rfl (Or.inl rfl)) (fun _ _ _ _ _ => pts_one (pt_cmpR op_eq (pe_ix (show IxR _ (rIxT K) from ix_tup) (pv 5) pe_int (fun _ _ => rfl)) (pv 1) (nomark _))) (fun _ _ _ _ _ => pe_ix (show IxR _ (rIxT K) from ix_tup) (pv 5) pe_int (fun _ _ => rfl))) pe_int (fun _ _ => rfl)))
      (pss_cons (ps_setLc (i := 4) (own := [("need", 6)]) (g := gName 6) (tt := tYes) rfl scNeeded.nd rfl rfl (sw_true rfl rfl rfl (by decide +kernel)) (pi_tup (pv 3))
        (blkOk_by (own := [("need", 6)]) (N := nNeeded) (sc := defScope sNeeded) (by decide +kernel))
        (fun _ _ _ _ _ => pg_name (i := 6) scNeeded.nd rfl (Or.inl rfl)) (fun _ _ _ _ _ => pts_nil) (fun _ _ _ _ _ => pe_call G hr rfl T.gN T.kN bG .nil pass0 (pa_cons (pv 6) (pa_cons (pv 2) pa_nil))))
      (pss_one (ps_ret (pe_ifExp (pt_cmpR (op_inD h65) pe_non (pv 4) (by with_unfolding_all rfl)) pe_non (pe_callTy call_tuple_of (by rfl) T.tuple (by decide +kernel) (pa_cons (pv 4) pa_nil)))))), ?_⟩
    obtain ⟨a0, ha0, b, bs, hq, hb, hpp⟩ := paired_ta hO.each ho
    have hol := hO.each.length
    refine ⟨_, rfl, x, C, dx, _, _, rfl, hx, T.cl, T.nO, rfl, oo, rfl, ⟨_, hO.at_⟩, fun D hD => ?_⟩
    refine lc_tup (K := K) (a := oo) (xs := as.map V.ref) (fun i H' => H' = upd H D (.lst (if i0 < i then [.ref b] else []))) (by rw [if_neg (Nat.not_lt_zero _)]) (fun i H' _ h => by rw [h]; exact sqT_same (same_new same_rfl hD) hO.at_) ?_ ?_
    · rintro i y H1 hi rfl
      rw [List.getElem?_map] at hi
      obtain ⟨a, ha, rfl⟩ := Option.map_eq_some_iff.mp hi
      obtain ⟨o', ho', b', bs', hq', _⟩ := paired_at hO.each ha
      have il : i < os.length := (List.getElem?_eq_some_iff.mp ho').1
      have sD : Same H (upd H D (.lst (if i0 < i then [.ref b] else []))) := same_new same_rfl hD
      by_cases e : i = i0
      · subst e
        rw [ha0] at ha
        cases ha
        refine ⟨rfl, _, rfl, _, _, _, .str o.w, rfl, rfl, sqT_same sD hq, rfl, _, rfl, rfl, _, rfl, ite2 (fun _ => ?_) (fun z => absurd (decide_eq_true rfl) z)⟩
        refine ⟨_, rfl, _, _, _, .ref b, rfl, rfl, sqT_same sD hq, rfl, _, upd_same, ?_, ?_⟩
        · rw [if_neg (Nat.lt_irrefl _), sizeLine_eq]
          decide
        · rw [upd_upd, if_neg (Nat.lt_irrefl _), if_pos (Nat.lt_succ_self _)]
          rfl
      · have hw : o'.w ≠ o.w := fun z => by
          have l0 : i0 < (os.map (·.w)).length := by rw [List.length_map]; exact (List.getElem?_eq_some_iff.mp ho).1
          have x1 : (os.map (·.w))[i]? = some o.w := by rw [List.getElem?_map, ho', ← z]; rfl
          have x2 : (os.map (·.w))[i0]? = some o.w := by rw [List.getElem?_map, ho]; rfl
          exact e ((List.getElem?_inj (by rw [List.length_map]; exact il) nd).mp (x1.trans x2.symm))
        refine ⟨rfl, _, rfl, a, _, _, _, rfl, rfl, sqT_same sD hq', rfl, _, rfl, rfl, _, rfl, ite2 (fun z => ?_) (fun _ => ?_)⟩
        · have z := of_decide_eq_true z
          injection z with z
          exact absurd z hw
        · by_cases e1 : i0 < i
          · rw [if_pos e1, if_pos (by omega)]
          · rw [if_neg e1, if_neg (by omega)]
    · rintro H1 rfl
      have i0l : i0 < (as.map V.ref).length := by
        rw [List.length_map, hol]
        exact (List.getElem?_eq_some_iff.mp ho).1
      rw [if_pos i0l]
      have s1 : Same H (upd H D (.lst [.ref b])) := same_new same_rfl hD
      refine ⟨D, _, _, _, rfl, rfl, SqL.of upd_same, rfl, ?_⟩
      generalize upd H D (.lst [.ref b]) = H1 at s1
      have hb1 := sqT_same s1 hb
      have hT1 := hT.same s1
      have hnl := hpp.length
      refine ⟨_, rfl, b, rfl, ⟨_, hb1⟩, fun E1 hE => ?_⟩
      have sE : Same H1 (upd H1 E1 (.lst [])) := same_new same_rfl hE
      refine lc_tup (K := K) (a := b) (xs := bs.map V.ref) (fun i H' => ∃ vs' : List V, H' E1 = some (.lst vs') ∧ vs'.length = i ∧ DKs (Jn H1 (upd H1 E1 (.lst [])) H') vs' (((o.nn.take i).map fun n => wantD n ds).map optD) ∧ Same H1 H')
        ⟨[], upd_same, rfl, .nil, sE⟩ (fun i H' _ ⟨_, _, _, _, z⟩ => sqT_same z hb1) ?_ ?_
      · rintro i y H2 hi ⟨vs', e2, vl, hv, s2⟩
        rw [List.getElem?_map] at hi
        obtain ⟨a, ha, rfl⟩ := Option.map_eq_some_iff.mp hi
        obtain ⟨n, hnn, hqn⟩ := paired_at hpp ha
        have il : i < bs.length := (List.getElem?_eq_some_iff.mp ha).1
        refine ⟨rfl, ?_⟩
        unfold tYes
        dsimp only
        rw [if_pos rfl]
        refine ⟨_, rfl, _, rfl, a, th, n, c, ds, m, ks, H1, rfl, sqT_same (same_tr s1 s2) hqn, hn n (List.mem_of_getElem? hnn), hm, hT1, s2, hp, fun v H3 s3 hv3 => ⟨vs', s3 _ _ e2, ?_, vs' ++ [v], upd_same, by rw [List.length_append, vl]; rfl, ?_, ?_⟩⟩
        · rw [sizeLine_eq]
          omega
        · have nE : ∀ {b1 : Addr}, upd H1 E1 (.lst []) b1 = none → b1 ≠ E1 := fun z y => by
            rw [y, upd_same] at z
            cases z
          rw [List.take_add_one, hnn, List.map_append, List.map_append]
          refine DKs.snoc' (DKs.keeps (fun b1 o1 e => ?_) _ _ hv) (DK.keeps (fun b1 o1 e => ?_) _ _ hv3)
          · rcases Jn.of e with ⟨z1, z2⟩ | z
            · exact Jn.new z1 ((upd_ne (nE z1)).trans (s3 _ _ z2))
            · exact Jn.old sE _ _ z
          · rcases Jn.of e with ⟨z1, z2⟩ | z
            · have z3 : upd H1 E1 (.lst []) b1 = none := by
                by_cases y : b1 = E1
                · rw [y, e2] at z1
                  cases z1
                · rw [upd_ne y]
                  cases q : H1 b1 with
                  | none => rfl
                  | some o2 => rw [s2 _ _ q] at z1; cases z1
              exact Jn.new z3 ((upd_ne (nE z3)).trans z2)
            · exact Jn.old sE _ _ z
        · exact fun b1 o1 e => (upd_ne (ne_of_none e hE)).trans (s3 _ _ (s2 _ _ e))
      · rintro H2 ⟨vs', e2, vl, hv, s2⟩
        have hlen : (bs.map V.ref).length = o.nn.length := by rw [List.length_map]; exact hnl
        rw [hlen, List.take_of_length_le (Nat.le_refl _)] at hv
        have hv2 : DKs H2 vs' ((o.nn.map fun n => wantD n ds).map optD) := DKs.keeps (fun b1 o1 e => by
          rcases Jn.of e with ⟨_, z⟩ | z
          · exact z
          · exact s2 _ _ z) _ _ hv
        have wok : ∀ d, some d ∈ (o.nn.map fun n => wantD n ds) → WOk d := fun d hd => by
          obtain ⟨n, hn1, hn2⟩ := List.mem_map.mp hd
          exact want_ok hp (hn n hn1) kl hn2
        obtain ⟨any1, any2⟩ := any_non _ wok
        obtain ⟨lay1, lay2⟩ := opt_lay _ wok
        have k12 := same_tr s1 s2
        refine ⟨_, rfl, .none, _, .non, .lst (SqL.of e2) (dks_dp K _ _ hv2 lay1), by decide +kernel, shaped_of lay1 lay2, _, rfl, ite2 (fun hb2 => ?_) (fun hb2 => ?_)⟩
        · rw [any1] at hb2
          have hnone : allSome (o.nn.map fun n => wantD n ds) = none := Option.isNone_iff_eq_none.mp hb2
          refine k _ _ k12 ?_
          unfold needD
          rw [hnone]
          exact .non
        · rw [any1] at hb2
          cases hl : allSome (o.nn.map fun n => wantD n ds) with
          | none => exact absurd (by rw [hl]; rfl) hb2
          | some l =>
            refine ⟨_, rfl, E1, vs', rfl, .inl ⟨SqL.of e2, fun q hq => k _ _ (same_tr k12 (same_new same_rfl hq)) ?_⟩⟩
            unfold needD
            rw [hl]
            rw [any2 l hl] at hv2
            exact .tup upd_same (DKs.keeps (same_new same_rfl hq) _ _ hv2)
end
end K05

set_option Elab.async false
set_option linter.all false
set_option maxRecDepth 100000
set_option maxHeartbeats 4000000
/-! What is due by the law's own reading. -/
namespace K05
open PySem PySem.Spec PyProof.Rows L2 Mine
def optL : Option PyData → List PyData
  | some d => [d]
  | none => []
def spWanted (K : PySem.W.Frag) : Sp := fun vs H Q _ => ∃ (a th : Addr) (n : Nd) (c : Str) (ds : List PyData) (m : Int) (ks : List (Str × Int)), vs = [.ref a, .ref th] ∧ SqT K H a (ndV n) ∧ NdOk m ks n ∧ (ds.length : Int) = m ∧ ThAt H th c ds ∧ PartsOk ds ∧
  ∀ p vs' H', Same H H' → H' p = some (.lst vs') → DKs H' vs' (optL (wantD n ds)) → Q (.ref p) H'
structure TxtU (K : PySem.W.Frag) (mg : Str → Option Value) (fW : Addr) : Prop extends TxtN mg where
  gW : mg "_law_wanted" = some (.ref fW)
  kW : PySem.W.keepIn K (.ref fW) = true
section
variable {P : Program} {w : World} {K : PySem.W.Frag} {mg : Str → Option Value} {base : Heap}
theorem scWanted : FnScope ["_law_need_here", "_law_it", "_law_inner"] ["_law_need_here", "_law_it"] (defScope sWanted) := ⟨rfl, rfl, rfl, by decide +kernel, rfl, by decide +kernel, by decide +kernel⟩
theorem ok_wanted {f : Addr} {fd : FuncData} (F : Fun K "_law_wanted" "_law_wanted" sWanted f fd) (T : TxtN mg) : FnOk P w K mg base CX0 1 f fd ["_law_need_here", "_law_it"] (spWanted K) := by
  refine F.ok scWanted (fun vs H Q E h => ?_) (fun cdv A outer s H vs Q E hr h => ?_)
  · obtain ⟨_, _, _, _, _, _, _, rfl, _⟩ := h
    rfl
  · obtain ⟨a, th, n, c, ds, m, ks, rfl, ha, hn, hm, ⟨vs, et, hvs⟩, hp, k⟩ := h
    refine ⟨_, pss_cons (ps_if (pt_cmpR op_eq (pe_ix ix_tup (pv 0) pe_int (fun _ _ => rfl)) pe_str (nomark _)) (pss_one (ps_ret (pe_lst (pa_cons (pe_ix ix_tup (pv 1) (pe_op op_add (pe_ix ix_tup (pv 0) pe_int (fun _ _ => rfl)) pe_int) (fun _ _ => rfl)) pa_nil)))) pss_nil)
      (pss_cons (ps_if (pt_cmpR op_eq (pe_ix ix_tup (pv 0) pe_int (fun _ _ => rfl)) pe_str (nomark _)) (pss_one (ps_ret (pe_lst (pa_cons (pe_tup (pa_cons (pe_ix ix_tup (pv 0) pe_int (fun _ _ => rfl)) (pa_cons (pe_ix ix_tup (pv 1) (pe_op op_add (pe_ix ix_tup (pv 0) pe_int (fun _ _ => rfl)) pe_int) (fun _ _ => rfl)) pa_nil))) pa_nil)))) pss_nil)
      (pss_cons (ps_set (i := 2) scWanted.nd rfl (.inl rfl) (pe_ix ix_tup (pv 1) (pe_op op_add (pe_ix ix_tup (pv 0) pe_int (fun _ _ => rfl)) pe_int) (fun _ _ => rfl)))
      (pss_one (ps_ret (pe_ifExp (PW.pt (pw_and (pt_val (pe_callB call_isi (by rfl) T.isi (by decide +kernel) (pa_cons (pv 2) (pa_cons (pe_bltn (v := .ty "tuple") rfl T.tuple (by decide +kernel) rfl) pa_nil))))
        (pw_and1 (pt_cmpR op_eq (pe_ix ix_tup (pv 2) pe_int (fun _ _ => rfl)) (pe_ix ix_tup (pv 0) pe_int (fun _ _ => rfl)) (nomark _))))) (pe_lst (pa_cons (pe_ix ix_tup (pv 2) pe_int (fun _ _ => rfl)) pa_nil)) (pe_lst pa_nil)))))), ?_⟩
    have ht : SqT K H th (.str c :: vs) := SqT.of et
    have l1 : 1 ≤ sizeLine := by rw [sizeLine_eq]; decide
    have l0 : 0 ≤ sizeLine := Nat.zero_le _
    have one : ∀ {H1 : Hp} {v : V} {d : PyData}, Same H H1 → DK H1 v d → wantD n ds = some d → ∀ p, H1 p = none → Q (.ref p) (upd H1 p (.lst [v])) := fun s1 hv e p hp1 =>
      k p _ _ (same_new s1 hp1) upd_same (by
        rw [e]
        exact .cons (DK.keeps (same_new same_rfl hp1) _ _ hv) .nil)
    have zero : wantD n ds = none → ∀ p, H p = none → Q (.ref p) (upd H p (.lst [])) := fun e p hp1 =>
      k p _ _ (same_new same_rfl hp1) upd_same (by
        rw [e]
        exact .nil)
    cases n with
    | part j =>
      obtain ⟨j0, j1⟩ := hn
      obtain ⟨v, d, hv, hd, hk⟩ := dks_get hvs hm j0 j1 (.str c)
      refine ⟨_, rfl, a, _, _, _, rfl, rfl, ha, rfl, rfl, _, rfl, ite2 (fun _ => ?_) (fun z => absurd (by decide) z)⟩
      exact ⟨_, rfl, _, rfl, a, _, _, _, rfl, rfl, ha, rfl, _, _, rfl, rfl, th, _, _, _, rfl, rfl, ht, hv, l1, one same_rfl hk hd⟩
    | around cc j =>
      obtain ⟨c1, j0, j1⟩ := hn
      obtain ⟨v, d, hv, hd, hk⟩ := dks_get hvs hm j0 j1 (.str c)
      refine ⟨_, rfl, a, _, _, _, rfl, rfl, ha, rfl, rfl, _, rfl, ite2 (fun z => absurd z (by decide)) (fun _ => ?_)⟩
      refine ⟨_, rfl, a, _, _, _, rfl, rfl, ha, rfl, rfl, _, rfl, ite2 (fun _ => ?_) (fun z => absurd (by decide) z)⟩
      refine ⟨_, rfl, a, _, _, _, rfl, rfl, ha, rfl, _, rfl, _, rfl, a, _, _, _, rfl, rfl, ha, rfl, _, _, rfl, rfl, th, _, _, _, rfl, rfl, ht, hv, (by show 2 ≤ sizeLine; rw [sizeLine_eq]; decide), fun q hq => ⟨l1, ?_⟩⟩
      refine one (d := .tuple [.str cc, d]) (same_new same_rfl hq) (.tup upd_same (.cons (.str _) (.cons (DK.keeps (same_new same_rfl hq) _ _ hk) .nil))) ?_
      show (ds[j.toNat]?).map _ = _
      rw [hd]
      rfl
    | inside j cc =>
      obtain ⟨c1, j0, j1⟩ := hn
      obtain ⟨v, d, hv, hd, hk⟩ := dks_get hvs hm j0 j1 (.str c)
      refine ⟨_, rfl, a, _, _, _, rfl, rfl, ha, rfl, rfl, _, rfl, ite2 (fun z => absurd z (by decide)) (fun _ => ?_)⟩
      refine ⟨_, rfl, a, _, _, _, rfl, rfl, ha, rfl, rfl, _, rfl, ite2 (fun z => absurd z (by decide)) (fun _ => ?_)⟩
      refine ⟨_, rfl, _, rfl, a, _, _, _, rfl, rfl, ha, rfl, _, _, rfl, rfl, th, _, _, _, rfl, rfl, ht, hv, ?_⟩
      have hpd := (hp d (List.mem_of_getElem? hd)).1
      rcases hpd.shape with ⟨c', rfl⟩ | ⟨c', d1, dr, rfl, hd1⟩
      · cases hk
        have e0 : wantD (.inside j cc) ds = none := by
          show (ds[j.toNat]?).bind _ = _
          rw [hd]
          rfl
        refine ⟨_, rfl, _, _, _, _, false, rfl, .ty "tuple", .base (.str _), kit_ty (by decide +kernel), _, rfl, ite2 (fun z => absurd z (by decide)) (fun _ => ?_)⟩
        exact ite2 (fun z => absurd z (by decide)) (fun _ => ⟨l0, zero e0⟩)
      · cases hk with
        | tup e1 r1 =>
          cases r1 with
          | cons h1 r1 =>
            cases h1
            cases r1 with
            | cons h2 r2 =>
              have e0 : wantD (.inside j cc) ds = if c' = cc then some d1 else none := by
                show (ds[j.toNat]?).bind _ = _
                rw [hd]
                rfl
              refine ⟨_, rfl, _, _, _, _, true, rfl, .ty "tuple", .base (.tup e1), kit_ty rfl, _, rfl, ite2 (fun _ => ?_) (fun z => absurd rfl z)⟩
              refine ⟨_, rfl, _, _, _, .str c', rfl, rfl, SqT.of e1, at0, _, rfl, a, _, _, .str cc, rfl, rfl, ha, rfl, rfl, _, rfl, ite2 (fun hb => ?_) (fun hb => ?_)⟩
              · have hcc : c' = cc := by
                  have z := of_decide_eq_true hb
                  injection z
                rw [if_pos hcc] at e0
                exact ⟨_, rfl, _, _, _, _, rfl, rfl, SqT.of e1, at1, l1, one same_rfl h2 e0⟩
              · have hcc : ¬ c' = cc := fun z => hb (by rw [z]; exact decide_eq_true rfl)
                rw [if_neg hcc] at e0
                exact ⟨l0, zero e0⟩
theorem scDue : FnScope ["_law_needs", "_law_it", "_law_found", "_law_need_here", "_law_some"] ["_law_needs", "_law_it"] (defScope sDue) := ⟨rfl, rfl, rfl, by decide +kernel, rfl, by decide +kernel, by decide +kernel⟩
def spDue (K : PySem.W.Frag) : Sp := fun vs H Q _ => ∃ (b th : Addr) (bs : List Addr) (nn : List Nd) (c : Str) (ds : List PyData) (m : Int) (ks : List (Str × Int)), vs = [.ref b, .ref th] ∧ SqT K H b (bs.map V.ref) ∧ Paired (fun x n => SqT K H x (ndV n)) bs nn ∧ (∀ n ∈ nn, NdOk m ks n) ∧ nn.length ≤ 2 ∧
  (∀ p ∈ ks, PyData.strOk p.1 = true) ∧ (ds.length : Int) = m ∧ ThAt H th c ds ∧ PartsOk ds ∧ ∀ v H', Same H H' → DK H' v (needD nn ds) → Q v H'
theorem ok_due {f fW : Addr} {fd dW : FuncData} (F : Fun K "_law_due" "_law_due" sDue f fd) (T : TxtU K mg fW) (G : FnOk P w K mg base CX0 1 fW dW ["_law_need_here", "_law_it"] (spWanted K)) (bG : Binds K dW ["_law_need_here", "_law_it"] []) : FnOk P w K mg base CX0 2 f fd ["_law_needs", "_law_it"] (spDue K) := by
  refine F.ok scDue (fun vs H Q E h => ?_) (fun cdv A outer s H vs Q E hr h => ?_)
  · obtain ⟨_, _, _, _, _, _, _, _, rfl, _⟩ := h
    rfl
  · obtain ⟨b, th, bs, nn, c, ds, m, ks, rfl, hb, hpp, hn, nl, kl, hm, hT, hp, k⟩ := h
    refine ⟨_, pss_cons (ps_set (i := 2) scDue.nd rfl (.inl rfl) (pe_lst pa_nil))
      (pss_cons (ps_for PassesOwn.never rfl (pi_tup (pv 0)) (pg_name (i := 3) scDue.nd rfl (.inl rfl))
        (pss_cons (ps_set (i := 4) scDue.nd rfl (.inl rfl) (pe_call G hr rfl T.gW T.kW bG .nil pass0 (pa_cons (pv 3) (pa_cons (pv 1) pa_nil))))
        (pss_cons (ps_if (pt_cmpR (op_eqD hr.units) (pv 4) (pe_lst pa_nil) (nomark _)) (pss_one (ps_ret pe_non)) pss_nil)
        (pss_one (ps_set (i := 2) scDue.nd rfl (.inl rfl) (pe_op op_cat (pv 2) (pv 4)))))))
      (pss_one (ps_ret (pe_callTy call_tuple_of (by rfl) T.tuple (by decide +kernel) (pa_cons (pv 2) pa_nil))))), ?_⟩
    have hnl := hpp.length
    have wok : ∀ n ∈ nn, ∀ d, wantD n ds = some d → WOk d := fun n hn1 d hd => want_ok hp (hn n hn1) kl hd
    refine ⟨Nat.zero_le _, fun q hq => ?_⟩
    have s0 : Same H (upd H q (.lst [])) := same_new same_rfl hq
    refine ⟨_, rfl, b, rfl, ⟨_, sqT_same s0 hb⟩, ?_⟩
    refine for_tup (K := K) (a := b) (xs := bs.map V.ref) (fun i σ H' => ∃ (fl : Addr) (vs' : List V) (l : List PyData) (o3 o4 : Option V), σ = [some (.ref b), some (.ref th), some (.ref fl), o3, o4] ∧ H' fl = some (.lst vs') ∧ vs'.length = i ∧ DKs H' vs' l ∧ allSome ((nn.take i).map fun n => wantD n ds) = some l ∧ Same H H')
      ⟨q, [], [], none, none, rfl, upd_same, rfl, .nil, rfl, s0⟩ (fun i σ H' _ ⟨_, _, _, _, _, _, _, _, _, _, z⟩ => sqT_same z hb) ?_ ?_
    · rintro i y σ H1 hi ⟨fl, vs', l, o3, o4, rfl, e1, vl, hv, hl, s1⟩
      rw [List.getElem?_map] at hi
      obtain ⟨a, ha, rfl⟩ := Option.map_eq_some_iff.mp hi
      obtain ⟨n, hnn, hqn⟩ := paired_at hpp ha
      have il : i < bs.length := (List.getElem?_eq_some_iff.mp ha).1
      refine ⟨_, rfl, _, rfl, a, th, n, c, ds, m, ks, rfl, sqT_same s1 hqn, hn n (List.mem_of_getElem? hnn), hm, hT.same s1, hp, fun p wv H2 s2 ep hw => ?_⟩
      have e12 := s2 _ _ e1
      have tk : (nn.take (i + 1)).map (fun n => wantD n ds) = (nn.take i).map (fun n => wantD n ds) ++ [wantD n ds] := by
        rw [List.take_add_one, hnn, List.map_append]
        rfl
      refine ⟨_, rfl, Nat.zero_le _, fun z hz => ?_⟩
      have ep3 := (upd_ne (o := .lst []) (ne_of_none ep hz)).trans ep
      have e13 := (upd_ne (o := .lst []) (ne_of_none e12 hz)).trans e12
      have s3 : Same H2 (upd H2 z (.lst [])) := same_new same_rfl hz
      cases hW : wantD n ds with
      | none =>
        rw [hW] at hw
        cases hw
        refine ⟨_, _, .lst (SqL.of ep3) .nil, .lst (SqL.of upd_same) .nil, by decide +kernel, by decide +kernel, _, rfl, ite2 (fun _ => ?_) (fun z => absurd (by decide +kernel) z)⟩
        refine k _ _ (same_tr (same_tr s1 s2) s3) ?_
        unfold needD
        have : (nn.map fun n => wantD n ds)[i]? = some none := by rw [List.getElem?_map, hnn, ← hW]; rfl
        rw [allSome_none this]
        exact .non
      | some d =>
        rw [hW] at hw
        have wd := wok n (List.mem_of_getElem? hnn) d hW
        have hw3 : DKs (upd H2 z (.lst [])) wv [d] := DKs.keeps s3 _ _ hw
        have lay : PyData.canLayAll0 [d] = true := by
          simp only [PyData.canLayAll0, wd.lay]
          rfl
        have dep : PyData.depthAll [d] ≤ 20 := by
          have := wd.dep
          simp only [PyData.depthAll]
          omega
        refine ⟨_, _, .lst (SqL.of ep3) (dks_dp K _ _ hw3 lay), .lst (SqL.of upd_same) .nil, shaped_of lay dep, by decide +kernel, _, rfl, ite2 (fun z => absurd z (by simp [PyData.eqv, PyData.eqvAll])) (fun _ => ?_)⟩
        have wl : wv.length = 1 := hw.len
        refine ⟨_, rfl, _, rfl, fl, p, _, _, rfl, rfl, e13, ep3, by rw [sizeLine_eq]; omega, fun r hr4 => ?_⟩
        have s4 : Same (upd H2 z (.lst [])) (upd (upd H2 z (.lst [])) r (.lst (vs' ++ wv))) := same_new same_rfl hr4
        obtain ⟨w1, rfl⟩ : ∃ w1, wv = [w1] := by
          match wv, wl with
          | [w1], _ => exact ⟨w1, rfl⟩
        refine ⟨r, _, l ++ [d], _, _, rfl, upd_same, by rw [List.length_append, vl]; rfl, ?_, ?_, same_tr (same_tr s1 s2) (same_tr s3 s4)⟩
        · cases hw3 with
          | cons h1 _ => exact DKs.snoc (DK.keeps s4 _ _ h1) (DKs.keeps (same_tr s2 (same_tr s3 s4)) _ _ hv)
        · rw [tk, allSome_snoc, hl, hW]
          rfl
    · rintro σ H1 ⟨fl, vs', l, o3, o4, rfl, e1, vl, hv, hl, s1⟩
      rw [List.length_map, hnl, List.take_of_length_le (Nat.le_refl _)] at hl
      refine ⟨_, rfl, fl, vs', rfl, .inl ⟨SqL.of e1, fun r hr4 => k _ _ (same_tr s1 (same_new same_rfl hr4)) ?_⟩⟩
      unfold needD
      rw [hl]
      exact .tup upd_same (DKs.keeps (same_new same_rfl hr4) _ _ hv)
end
end K05

set_option Elab.async false
set_option linter.all false
set_option maxRecDepth 100000
set_option maxHeartbeats 4000000
/-! A drawn thing of the kind of an opening. -/
namespace K05
open PySem PySem.Spec PyProof.Rows L2 Mine
abbrev sFit : Stmt := top 39
theorem cutA {x : V} {vs : List V} {j : Nat} (h : j < vs.length) : cutV (x :: vs) none (some (((j : Nat) : Int) + 1)) = x :: vs.take j ∧ ¬ (HT.sIx (x :: vs).length 0 none = 0 ∧ HT.sIx (x :: vs).length (x :: vs).length (some (((j : Nat) : Int) + 1)) = (x :: vs).length) := by
  have e : ((j : Nat) : Int) + 1 = ((j + 1 : Nat) : Int) := by omega
  rw [e]
  have e2 : HT.sIx (x :: vs).length (x :: vs).length (some ((j + 1 : Nat) : Int)) = j + 1 := by
    rw [HT.sIx_nat, List.length_cons]
    omega
  refine ⟨?_, fun z => ?_⟩
  · unfold cutV
    rw [e2, HT.sIx_none, List.drop_zero]
    rfl
  · have z2 := z.2
    rw [e2, List.length_cons] at z2
    omega
theorem cutB {x : V} {vs : List V} {j : Nat} (h : j < vs.length) : cutV (x :: vs) (some (((j : Nat) : Int) + 1 + 1)) none = vs.drop (j + 1) ∧ ¬ (HT.sIx (x :: vs).length 0 (some (((j : Nat) : Int) + 1 + 1)) = 0 ∧ HT.sIx (x :: vs).length (x :: vs).length none = (x :: vs).length) := by
  have e : ((j : Nat) : Int) + 1 + 1 = ((j + 2 : Nat) : Int) := by omega
  rw [e]
  have e2 : HT.sIx (x :: vs).length 0 (some ((j + 2 : Nat) : Int)) = j + 2 := by
    rw [HT.sIx_nat, List.length_cons]
    omega
  refine ⟨?_, fun z => ?_⟩
  · unfold cutV
    rw [e2, HT.sIx_none, List.take_of_length_le (by rw [List.length_drop]; exact Nat.le_refl _)]
    rfl
  · have z1 := z.1
    rw [e2] at z1
    omega
theorem dks_app {H : Hp} : ∀ {a : List V} {b : List PyData} {c : List V} {d : List PyData}, DKs H a b → DKs H c d → DKs H (a ++ c) (b ++ d)
  | _, _, _, _, .nil, h => h
  | _, _, _, _, .cons x r, h => .cons x (dks_app r h)
theorem dks_take {H : Hp} : ∀ (n : Nat) {a : List V} {b : List PyData}, DKs H a b → DKs H (a.take n) (b.take n)
  | 0, _, _, _ => by rw [List.take_zero, List.take_zero]; exact .nil
  | _ + 1, _, _, .nil => .nil
  | n + 1, _, _, .cons x r => .cons x (dks_take n r)
theorem dks_drop {H : Hp} : ∀ (n : Nat) {a : List V} {b : List PyData}, DKs H a b → DKs H (a.drop n) (b.drop n)
  | 0, _, _, h => h
  | _ + 1, _, _, .nil => .nil
  | n + 1, _, _, .cons _ r => dks_drop n r
def ItemAt (H : Hp) (a : Addr) (o : Opn) : Prop := ∃ (b : Addr) (bs : List Addr), H a = some (.tup [.str o.w, .str o.k, .int o.g, .ref b]) ∧ H b = some (.tup (bs.map V.ref)) ∧ Paired (fun x n => H x = some (.tup (ndV n))) bs o.nn
theorem ItemAt.mono {H H' : Hp} {a : Addr} {o : Opn} (k : ∀ b xs, H b = some (.tup xs) → H' b = some (.tup xs)) (h : ItemAt H a o) : ItemAt H' a o :=
  let ⟨b, bs, h1, h2, h3⟩ := h
  ⟨b, bs, k _ _ h1, k _ _ h2, paired_mono (fun _ _ => k _ _) h3⟩
theorem ItemAt.opn {K : PySem.W.Frag} {H : Hp} {a : Addr} {o : Opn} (h : ItemAt H a o) : OpnAt K H a o :=
  let ⟨b, bs, h1, h2, h3⟩ := h
  ⟨b, bs, SqT.of h1, SqT.of h2, paired_mono (fun _ _ => SqT.of) h3⟩
structure PartOk (d : PyData) : Prop where
  ok : ThingOk d
  sh : Shows 200 5 d
theorem parts_sa : ∀ ds : List PyData, (∀ d ∈ ds, PartOk d) → SA (200 * ds.length) 5 ds.length ds
  | [], _ => SA.nil
  | d :: ds, h => by
    have := SA.cons (h d (List.mem_cons_self ..)).sh (parts_sa ds fun x hx => h x (List.mem_cons_of_mem _ hx))
    rw [List.length_cons, Nat.mul_succ]
    exact this
theorem parts_ok {ds : List PyData} (h : ∀ d ∈ ds, PartOk d) : PartsOk ds := fun d hd => ⟨(h d hd).ok, by have := (h d hd).sh.dep; omega⟩
theorem parts_show {ds : List PyData} {c : Str} (h : ∀ d ∈ ds, PartOk d) (hl : ds.length ≤ 3) (hc : c ∈ W8) : Shows 650 6 (.tuple (.str c :: ds)) :=
  ((parts_sa ds h).cons ((w8_str hc).up (Nat.le_refl _) (Nat.zero_le _))).tuple.up (by omega) (Nat.le_refl _)
def spFit : Sp := fun vs H Q _ => ∃ (dk dl mk a : Addr) (t m : Int) (ms : List V) (ks : List (Str × Int)) (o : Opn), vs = [.ref dk, .ref mk, .ref a] ∧ DeckAt H dk dl t ∧ MakesAt H mk ms ks ∧ ItemAt H a o ∧ (o.k, m) ∈ ks ∧ (∀ n ∈ o.nn, NdOk m ks n) ∧ o.nn.length ≤ 2 ∧ 0 ≤ t ∧ t ≤ 40000 ∧
  ∀ (th : Addr) (ds : List PyData) (t' : Int) (H' : Hp), DeckAt H' dk dl t' → t ≤ t' → t' ≤ t + 200 → Keep dk dl H H' → H th = none → ThAt H' th o.k ds → (ds.length : Int) = m → (∀ d ∈ ds, PartOk d) → Q (.ref th) H'
structure TxtF (K : PySem.W.Frag) (mg : Str → Option Value) (fD fT : Addr) : Prop where
  range : mg "range" = none
  dict : mg "dict" = none
  list : mg "list" = none
  gD : mg "_law_draw" = some (.ref fD)
  kD : PySem.W.keepIn K (.ref fD) = true
  gT : mg "_law_thing" = some (.ref fT)
  kT : PySem.W.keepIn K (.ref fT) = true
theorem ks_paired {H : Hp} : ∀ {ms : List V} {ks : List (Str × Int)}, DKs H ms (ks.map kD) → ∃ ps : List Addr, ms = ps.map V.ref ∧ Paired (fun a p => H a = some (.tup [.str p.1, .int p.2])) ps ks
  | _, [], h => by cases h; exact ⟨[], rfl, .nil⟩
  | _, p :: ks, h => by
    cases h with
    | cons h1 h2 =>
      obtain ⟨a, rfl, e⟩ := kd_of h1
      obtain ⟨ps, rfl, r⟩ := ks_paired h2
      exact ⟨a :: ps, rfl, .cons e r⟩
theorem w8_nodup : W8.Nodup := by decide +kernel
abbrev nFit : List Str := ["_law_deck_here", "_law_makes", "_law_item", "_law_leaves", "_law_it", "_law_k", "_law_need_here", "_law_at", "_law_bit"]
section
variable {P : Program} {w : World} {K : PySem.W.Frag} {mg : Str → Option Value} {base : Heap}
theorem scFit : FnScope nFit ["_law_deck_here", "_law_makes", "_law_item"] (defScope sFit) := ⟨rfl, rfl, rfl, by decide +kernel, rfl, by decide +kernel, by decide +kernel⟩
theorem ok_fit {f fD fT : Addr} {fd fdD fdT : FuncData} (F : Fun K "_law_fit" "_law_fit" sFit f fd) (GD : FnOk P w K mg base CX0 1 fD fdD ["_law_deck_here", "_law_below"] spDraw) (bD : Binds K fdD ["_law_deck_here", "_law_below"] [])
    (G5 : FnOk P w K mg base CX0 8 fT fdT ["_law_deck_here", "_law_makes", "_law_leaves", "_law_top", "_law_deep"] (spThing 5)) (G3 : FnOk P w K mg base CX0 6 fT fdT ["_law_deck_here", "_law_makes", "_law_leaves", "_law_top", "_law_deep"] (spThing 3))
    (bT : Binds K fdT ["_law_deck_here", "_law_makes", "_law_leaves", "_law_top", "_law_deep"] []) (T : TxtF K mg fD fT) : FnOk P w K mg base CX0 9 f fd ["_law_deck_here", "_law_makes", "_law_item"] spFit := by
  refine F.ok scFit (fun vs H Q E h => ?_) (fun cdv A outer s H vs Q E hr h => ?_)
  · obtain ⟨_, _, _, _, _, _, _, _, _, rfl, _⟩ := h
    rfl
  · obtain ⟨dk, dl, mk, a, t, m, ms, ks, o, rfl, hD, M, hI, hkm, hn, nl, t0, t1, k⟩ := h
    have hu := hu_of hr
    have hr1 : Room 1 _ := hr.mono (by decide)
    have hr6 : Room 6 _ := hr.mono (by decide)
    refine ⟨_, pss_cons (ps_par (i := 3) (j := 4) rfl scFit.nd rfl rfl (by decide) rfl rfl (pa_cons (pe_lst (pa_cons pe_str (pa_cons pe_str (pa_cons pe_str (pa_cons pe_str pa_nil))))) (pa_cons (pe_tup (pa_cons (pe_ix ix_tup (pv 2) pe_int (fun _ _ => rfl)) pa_nil)) pa_nil)) (by rfl))
      (pss_cons (ps_for PassesOwn.never rfl (pi_range1 rfl T.range (pa_cons (pe_dget hu (pe_callTy (call_dictP rfl) (by rfl) T.dict (by decide +kernel) (pa_cons (pe_callTy call_list_of (by rfl) T.list (by decide +kernel) (pa_cons (pv 1) pa_nil)) pa_nil)) (pe_ix ix_tup (pv 2) pe_int (fun _ _ => rfl)) (fun _ _ => rfl)) pa_nil)) (pg_name (i := 5) scFit.nd rfl (.inl rfl))
        (pss_one (ps_set (i := 4) scFit.nd rfl (.inl rfl) (pe_op op_catT (pv 4) (pe_tup (pa_cons (pe_call G5 hr rfl T.gT T.kT bT .nil pass0 (pa_cons (pv 0) (pa_cons (pv 1) (pa_cons (pv 3) (pa_cons pe_int (pa_cons pe_int pa_nil)))))) pa_nil))))))
      (pss_cons (ps_for PassesOwn.never rfl (pi_tup (pe_ix ix_tup (pv 2) pe_int (fun _ _ => rfl))) (pg_name (i := 6) scFit.nd rfl (.inl rfl))
        (pss_one (ps_if (PW.pt (pw_and (pt_cmpR op_eq (pe_ix ix_tup (pv 6) pe_int (fun _ _ => rfl)) pe_str (nomark _)) (pw_and1 (pt_cmpR op_gt (pe_call GD hr1 rfl T.gD T.kD bD .nil pass0 (pa_cons (pv 0) (pa_cons pe_int pa_nil))) pe_int (nomark _)))))
          (pss_cons (ps_set (i := 7) scFit.nd rfl (.inl rfl) (pe_op op_add (pe_ix ix_tup (pv 6) pe_int (fun _ _ => rfl)) pe_int))
          (pss_cons (ps_set (i := 8) scFit.nd rfl (.inl rfl) (pe_tup (pa_cons (pe_ix ix_tup (pv 6) pe_int (fun _ _ => rfl)) (pa_cons (pe_call G3 hr6 rfl T.gT T.kT bT .nil pass0 (pa_cons (pv 0) (pa_cons (pv 1) (pa_cons (pv 3) (pa_cons pe_int (pa_cons pe_int pa_nil)))))) pa_nil))))
          (pss_one (ps_set (i := 4) scFit.nd rfl (.inl rfl) (pe_op op_catT (pe_op op_catT (pe_slice sl_tup (pv 4) po_none (po_some (pv 7))) (pe_tup (pa_cons (pv 8) pa_nil))) (pe_slice sl_tup (pv 4) (po_some (pe_op op_add (pv 7) pe_int)) po_none)))))) pss_nil)))
      (pss_one (ps_ret (pv 4))))), ?_⟩
    obtain ⟨b, bs, ha, hb, hpp⟩ := hI
    have kw : ∀ p ∈ ks, p.1 ∈ W8 := fun p hp => M.sub.subset (List.mem_map_of_mem hp)
    have mb := M.num _ hkm
    have m1 : 1 ≤ m := mb.1
    have m3 : m ≤ 3 := mb.2
    clear mb
    have hcw : o.k ∈ W8 := kw _ hkm
    refine ⟨(by show 4 ≤ sizeLine; rw [sizeLine_eq]; decide), fun lf hlf => ?_⟩
    have al := (Keep.refl.new (o := .lst (leaves.map V.str)) hlf).tup hD ha
    refine ⟨_, rfl, a, _, _, _, rfl, rfl, SqT.of al, rfl, (by show 1 ≤ sizeLine; rw [sizeLine_eq]; decide), fun q hq => ⟨_, _, rfl, ?_⟩⟩
    have ol := hD.off hlf
    have D0 := (hD.new (o := .lst (leaves.map V.str)) hlf).new (o := .tup [.str o.k]) hq
    have K0 : Keep dk dl H _ := (Keep.refl.new (o := .lst (leaves.map V.str)) hlf).new (o := .tup [.str o.k]) hq
    have nq : H q = none := hD.dom (hD.new hlf) (Keep.refl.new (o := .lst (leaves.map V.str)) hlf) q hq
    have l0 : upd (upd H lf (.lst (leaves.map V.str))) q (.tup [.str o.k]) lf = some (.lst (leaves.map V.str)) := (upd_ne (ne_of_none upd_same hq)).trans upd_same
    have q0 : upd (upd H lf (.lst (leaves.map V.str))) q (.tup [.str o.k]) q = some (.tup [.str o.k]) := upd_same
    show Ends.nx _ _ (upd (upd H lf (.lst (leaves.map V.str))) q (.tup [.str o.k]))
    generalize upd (upd H lf (.lst (leaves.map V.str))) q (.tup [.str o.k]) = H0 at D0 K0 l0 q0
    have M0 := M.keep hD K0
    refine ⟨_, rfl, mk, ms, rfl, .inr M0.at_.sq, fun z1 hz1 => ?_⟩
    obtain ⟨ps, rfl, hps⟩ := ks_paired M0.ok
    have s1 : Same H0 (upd H0 z1 (.lst (ps.map V.ref))) := same_new same_rfl hz1
    refine ⟨z1, ps, ks.map kvOf, rfl, SqL.of upd_same, paired_kv (paired_mono (fun _ _ e => SqT.of (s1 _ _ e)) hps), fun z2 hz2 => ?_⟩
    have s2 := same_new (o := .dK (mergeK [] (ks.map kvOf))) s1 hz2
    obtain ⟨kvs, ek, yes, no⟩ := cnt_new (H := upd H0 z1 (.lst (ps.map V.ref))) (cd := z2) (ks := ks) (M.sub.nodup w8_nodup)
    have K1 : Keep dk dl H0 (upd (upd H0 z1 (.lst (ps.map V.ref))) z2 (.dK (mergeK [] (ks.map kvOf)))) := fun b o _ _ e => s2 b o e
    have D1 := (D0.new (o := .lst (ps.map V.ref)) hz1).new (o := .dK (mergeK [] (ks.map kvOf))) hz2
    generalize upd (upd H0 z1 (.lst (ps.map V.ref))) z2 (.dK (mergeK [] (ks.map kvOf))) = H1 at s2 ek K1 D1
    have KH1 := K0.trans K1
    have a1 := KH1.tup hD ha
    refine ⟨_, rfl, a, _, _, _, rfl, rfl, SqT.of a1, rfl, z2, _, rfl, .inl ⟨kvs, .inr o.k, .inl ek, rfl, (yes _ hkm).symm⟩, _, rfl, by omega, by omega, ?_⟩
    have hmt : ((m.toNat : Nat) : Int) = m := by omega
    refine for_range (lo := 0) (n := m.toNat) (fun i σ H' => ∃ (p : Addr) (vs : List V) (ds : List PyData) (x : Int) (o5 o6 o7 o8 : Option V), σ = [some (.ref dk), some (.ref mk), some (.ref a), some (.ref lf), some (.ref p), o5, o6, o7, o8] ∧
        H' p = some (.tup (.str o.k :: vs)) ∧ H p = none ∧ DKs (Nw H H') vs ds ∧ vs.length = i ∧ (∀ d ∈ ds, PartOk d) ∧ DeckAt H' dk dl x ∧ t ≤ x ∧ x ≤ t + 30 * (i : Int) ∧ Keep dk dl H0 H')
      ⟨q, [], [], t, none, none, none, none, rfl, s2 _ _ q0, nq, .nil, rfl, fun _ z => (List.not_mem_nil z).elim, D1, by omega, by omega, K1⟩ ?_ ?_
    · rintro i σ H' hi ⟨p, vs, ds, x, o5, o6, o7, o8, rfl, hp, np, hds, vl, hok, D', xa, xb, K'⟩
      have KH' := K0.trans K'
      have op := hD.off np
      refine ⟨_, rfl, _, rfl, _, rfl, _, rfl, dk, dl, mk, lf, x, 6, _, ks, rfl, D', M.keep hD KH', ol.2, K' _ _ ol.1 ol.2 l0, by decide, by decide, by omega, by omega, fun v d x' H2 D2 xc xd K2 hv hth hsh => ⟨(by show 1 ≤ sizeLine; rw [sizeLine_eq]; decide), fun r hr' => ?_⟩⟩
      have K2r : Keep dk dl H' (upd H2 r (.tup [v])) := K2.new hr'
      refine ⟨p, r, _, _, rfl, rfl, SqT.of (K2r _ _ op.1 op.2 hp), SqT.of upd_same, List.cons_ne_nil _ _, (by rw [List.length_cons, List.length_cons, List.length_nil, sizeLine_eq]; omega), (fun z => absurd z (List.cons_ne_nil _ _)), fun _ p6 hp6 => ?_⟩
      have K26 : Keep dk dl H2 (upd (upd H2 r (.tup [v])) p6 (.tup (.str o.k :: vs ++ [v]))) := (Keep.refl.new hr').new hp6
      have K6 := K'.trans (K2.trans K26)
      refine ⟨p6, vs ++ [v], ds ++ [d], x', _, _, _, _, rfl, upd_same, hD.dom (D2.new hr') ((KH'.trans K2).new hr') p6 hp6, ?_, by rw [List.length_append, vl]; rfl, fun d' hd' => ?_, (D2.new hr').new hp6, by omega, by omega, K6⟩
      · exact (DKs.keeps (Nw.mono (fun _ z => z) ((K2.trans K26).news hD)) _ _ hds).snoc' (DK.keeps (Nw.mono (hD.dom D' KH') (K26.news D')) _ _ hv)
      · rcases List.mem_append.mp hd' with h | h
        · exact hok _ h
        · simp only [List.mem_cons, List.not_mem_nil, or_false] at h
          rw [h]
          exact ⟨hth, hsh.up (by omega) (by omega)⟩
    · rintro σ H2 ⟨p, vs, ds, x, o5, o6, o7, o8, rfl, hp, np, hds, vl, hok, D2, xa, xb, K2⟩
      have KH2 := K0.trans K2
      have a2 := KH2.tup hD ha
      have b2 := KH2.tup hD hb
      have hnl := hpp.length
      refine ⟨_, rfl, a, _, _, _, rfl, rfl, SqT.of a2, rfl, b, rfl, ⟨_, SqT.of b2⟩, ?_⟩
      refine for_tup (K := K) (a := b) (xs := bs.map V.ref) (fun i σ H' => ∃ (p : Addr) (vs : List V) (ds : List PyData) (x : Int) (o5 o6 o7 o8 : Option V), σ = [some (.ref dk), some (.ref mk), some (.ref a), some (.ref lf), some (.ref p), o5, o6, o7, o8] ∧
          H' p = some (.tup (.str o.k :: vs)) ∧ H p = none ∧ DKs (Nw H H') vs ds ∧ (ds.length : Int) = m ∧ (∀ d ∈ ds, PartOk d) ∧ DeckAt H' dk dl x ∧ t ≤ x ∧ x ≤ t + 90 + 30 * (i : Int) ∧ Keep dk dl H0 H')
        ⟨p, vs, ds, x, _, _, _, _, rfl, hp, np, hds, by have := hds.len; omega, hok, D2, xa, by omega, K2⟩ (fun i σ H' _ ⟨_, _, _, _, _, _, _, _, _, _, _, _, _, _, _, _, _, z⟩ => SqT.of ((K0.trans z).tup hD hb)) ?_ ?_
      · clear hp np hds vl hok D2 xa xb K2 KH2 a2 b2
        rintro i y σ H' hi ⟨p, vs, ds, x, o5, o6, o7, o8, rfl, hp, np, hds, dl3, hok, D', xa, xb, K'⟩
        rw [List.getElem?_map] at hi
        obtain ⟨z, hz, rfl⟩ := Option.map_eq_some_iff.mp hi
        obtain ⟨n, hnn, hqn⟩ := paired_at hpp hz
        have il : i < bs.length := (List.getElem?_eq_some_iff.mp hz).1
        have KH' := K0.trans K'
        have hz' := KH'.tup hD hqn
        cases n with
        | part j =>
          refine ⟨_, rfl, z, _, _, _, rfl, rfl, SqT.of hz', rfl, rfl, _, rfl, ite2 (fun w => absurd w (by decide)) (fun _ => ite2 (fun w => absurd w Bool.false_ne_true) fun _ => ?_)⟩
          exact ⟨p, vs, ds, x, _, _, _, _, rfl, hp, np, hds, dl3, hok, D', xa, by omega, K'⟩
        | around cc j =>
          refine ⟨_, rfl, z, _, _, _, rfl, rfl, SqT.of hz', rfl, rfl, _, rfl, ite2 (fun w => absurd w (by decide)) (fun _ => ite2 (fun w => absurd w Bool.false_ne_true) fun _ => ?_)⟩
          exact ⟨p, vs, ds, x, _, _, _, _, rfl, hp, np, hds, dl3, hok, D', xa, by omega, K'⟩
        | inside j cc =>
          obtain ⟨c1, j0, j1⟩ := hn _ (List.mem_of_getElem? hnn)
          refine ⟨_, rfl, z, _, _, _, rfl, rfl, SqT.of hz', rfl, rfl, _, rfl, ite2 (fun _ => ?_) (fun w => absurd (by decide) w)⟩
          refine ⟨_, rfl, dk, dl, 3, x, rfl, D', by decide, by decide, by omega, by omega, fun r H3 r0 r1 D3 K3 => ⟨_, _, rfl, rfl, _, rfl, ite2 (fun _ => ?_) (fun _ => ?_)⟩⟩
          · have K03 := K'.trans K3
            have KH3 := K0.trans K03
            have hz3 := KH3.tup hD hqn
            refine ⟨_, rfl, z, _, _, _, rfl, rfl, SqT.of hz3, rfl, _, _, rfl, rfl, ?_⟩
            refine ⟨_, rfl, z, _, _, _, rfl, rfl, SqT.of hz3, rfl, _, rfl, _, rfl, _, rfl, dk, dl, mk, lf, x + 1, 4, _, ks, rfl, D3, M.keep hD KH3, ol.2, K03 _ _ ol.1 ol.2 l0, by decide, by decide, by omega, by omega, fun v d x' H4 D4 xc xd K4 hv hth hsh => ⟨(by show 2 ≤ sizeLine; rw [sizeLine_eq]; decide), fun g hg => ?_⟩⟩
            have KH4 := KH3.trans K4
            have op := hD.off np
            have dj : j.toNat < ds.length := by omega
            have vlen := hds.len
            obtain ⟨jn, rfl⟩ := Int.eq_ofNat_of_zero_le j0
            have jv : jn < vs.length := by omega
            obtain ⟨cA, nA⟩ := cutA (x := .str o.k) jv
            obtain ⟨cB, nB⟩ := cutB (x := .str o.k) jv
            have pg : upd H4 g (.tup [.str cc, v]) p = some (.tup (.str o.k :: vs)) := ((K3.trans K4).new hg) _ _ op.1 op.2 hp
            refine ⟨_, rfl, _, rfl, _, rfl, p, _, rfl, SqT.of pg, nA, fun g1 hg1 => ?_⟩
            rw [cA]
            refine ⟨_, rfl, (by show 1 ≤ sizeLine; rw [sizeLine_eq]; decide), fun g2 hg2 => ?_⟩
            have e1 : upd (upd (upd H4 g (.tup [.str cc, v])) g1 (.tup (.str o.k :: vs.take jn))) g2 (.tup [.ref g]) g1 = some (.tup (.str o.k :: vs.take jn)) := (upd_ne (ne_of_none upd_same hg2)).trans upd_same
            refine ⟨g1, g2, _, _, rfl, rfl, SqT.of e1, SqT.of upd_same, List.cons_ne_nil _ _, (by rw [List.length_cons, List.length_take, List.length_cons, List.length_nil, sizeLine_eq]; omega), (fun w => absurd w (List.cons_ne_nil _ _)), fun _ g3 hg3 => ?_⟩
            have p1 := (upd_ne (o := .tup (.str o.k :: vs.take jn)) (ne_of_none pg hg1)).trans pg
            have p2 := (upd_ne (o := .tup [.ref g]) (ne_of_none p1 hg2)).trans p1
            have p3 := (upd_ne (o := .tup (.str o.k :: vs.take jn ++ [.ref g])) (ne_of_none p2 hg3)).trans p2
            refine ⟨_, rfl, _, rfl, _, _, rfl, rfl, _, rfl, p, _, rfl, SqT.of p3, nB, fun g4 hg4 => ?_⟩
            rw [cB]
            have n34 : g3 ≠ g4 := ne_of_none upd_same hg4
            -- the heap, and what is kept on the way
            have Kg : Keep dk dl H4 (upd (upd (upd (upd (upd H4 g (.tup [.str cc, v])) g1 (.tup (.str o.k :: vs.take jn))) g2 (.tup [.ref g])) g3 (.tup (.str o.k :: vs.take jn ++ [.ref g]))) g4 (.tup (vs.drop (jn + 1)))) := ((((Keep.refl.new hg).new hg1).new hg2).new hg3).new hg4
            have Dg := ((((D4.new (o := .tup [.str cc, v]) hg).new (o := .tup (.str o.k :: vs.take jn)) hg1).new (o := .tup [.ref g]) hg2).new (o := .tup (.str o.k :: vs.take jn ++ [.ref g])) hg3).new (o := .tup (vs.drop (jn + 1))) hg4
            have gg : upd (upd (upd (upd (upd H4 g (.tup [.str cc, v])) g1 (.tup (.str o.k :: vs.take jn))) g2 (.tup [.ref g])) g3 (.tup (.str o.k :: vs.take jn ++ [.ref g]))) g4 (.tup (vs.drop (jn + 1))) g = some (.tup [.str cc, v]) := by
              have w0 : upd H4 g (.tup [.str cc, v]) g = some (.tup [.str cc, v]) := upd_same
              have w1 := (upd_ne (o := .tup (.str o.k :: vs.take jn)) (ne_of_none w0 hg1)).trans w0
              have w2 := (upd_ne (o := .tup [.ref g]) (ne_of_none w1 hg2)).trans w1
              have w3 := (upd_ne (o := .tup (.str o.k :: vs.take jn ++ [.ref g])) (ne_of_none w2 hg3)).trans w2
              exact (upd_ne (ne_of_none w3 hg4)).trans w3
            have g3v : upd (upd (upd (upd (upd H4 g (.tup [.str cc, v])) g1 (.tup (.str o.k :: vs.take jn))) g2 (.tup [.ref g])) g3 (.tup (.str o.k :: vs.take jn ++ [.ref g]))) g4 (.tup (vs.drop (jn + 1))) g3 = some (.tup (.str o.k :: vs.take jn ++ [.ref g])) := (upd_ne n34).trans upd_same
            have g4v : upd (upd (upd (upd (upd H4 g (.tup [.str cc, v])) g1 (.tup (.str o.k :: vs.take jn))) g2 (.tup [.ref g])) g3 (.tup (.str o.k :: vs.take jn ++ [.ref g]))) g4 (.tup (vs.drop (jn + 1))) g4 = some (.tup (vs.drop (jn + 1))) := upd_same
            have ngH : H g = none := hD.dom D4 KH4 g hg
            have ng3 : H g3 = none := hD.dom (((D4.new hg).new hg1).new hg2) (((KH4.new hg).new hg1).new hg2) g3 hg3
            generalize upd (upd (upd (upd (upd H4 g (.tup [.str cc, v])) g1 (.tup (.str o.k :: vs.take jn))) g2 (.tup [.ref g])) g3 (.tup (.str o.k :: vs.take jn ++ [.ref g]))) g4 (.tup (vs.drop (jn + 1))) = H9 at Kg Dg gg g3v g4v
            have K9 := K4.trans Kg
            have hbit : DK (Nw H H9) (.ref g) (.tuple [.str cc, d]) := .tup (Nw.at ngH gg) (.cons (.str _) (.cons (DK.keeps (Nw.mono (hD.dom D3 KH3) (Kg.news D3)) _ _ hv) .nil))
            have hds9 : DKs (Nw H H9) vs ds := DKs.keeps (Nw.mono (fun _ z => z) ((K3.trans K9).news hD)) _ _ hds
            have hnew : DKs (Nw H H9) (vs.take jn ++ .ref g :: vs.drop (jn + 1)) (ds.take jn ++ .tuple [.str cc, d] :: ds.drop (jn + 1)) := dks_app (dks_take jn hds9) (.cons hbit (dks_drop (jn + 1) hds9))
            have hnl : (((ds.take jn ++ .tuple [.str cc, d] :: ds.drop (jn + 1)).length : Nat) : Int) = m := by
              rw [List.length_append, List.length_take, List.length_cons, List.length_drop]
              omega
            have ccw : cc ∈ W8 := kw _ c1
            have pbit : PartOk (.tuple [.str cc, d]) := by
              refine ⟨⟨.inr ⟨cc, d, [], rfl, hth.nonN⟩, ?_⟩, ?_⟩
              · simp only [PyData.canLay0, PyData.canLayAll0, Bool.and_eq_true]
                exact ⟨w8_ok _ ccw, hth.lay, trivial⟩
              · exact (SA.cons ((w8_str ccw).up (Nat.le_refl _) (Nat.zero_le _)) (SA.cons hsh SA.nil)).tuple.up (by omega) (by omega)
            have hoknew : ∀ e ∈ ds.take jn ++ .tuple [.str cc, d] :: ds.drop (jn + 1), PartOk e := fun e he => by
              rcases List.mem_append.mp he with h | h
              · exact hok e (List.mem_of_mem_take h)
              · rcases List.mem_cons.mp h with h | h
                · rw [h]
                  exact pbit
                · exact hok e (List.mem_of_mem_drop h)
            refine ⟨g3, g4, _, _, rfl, rfl, SqT.of g3v, SqT.of g4v, List.cons_ne_nil _ _, (by rw [List.length_append, List.length_cons, List.length_take, List.length_drop, List.length_cons, List.length_nil, sizeLine_eq]; omega), (fun hnil => ?_), fun hnn9 g5 hg5 => ?_⟩
            · rw [hnil] at hnew
              refine ⟨g3, _, _, x', _, _, _, _, rfl, ?_, ng3, hnew, hnl, hoknew, Dg, by omega, by omega, K03.trans K9⟩
              rw [g3v]
              rfl
            · refine ⟨g5, _, _, x', _, _, _, _, rfl, ?_, hD.dom Dg (KH3.trans K9) g5 hg5, DKs.keeps (Nw.mono (fun _ z => z) fun b1 o1 _ e => (upd_ne (ne_of_none e hg5)).trans e) _ _ hnew, hnl, hoknew, Dg.new hg5, by omega, by omega, (K03.trans K9).new hg5⟩
              rw [upd_same]
              simp
          · exact ⟨p, vs, ds, x + 1, _, _, _, _, rfl, K3 _ _ (hD.off np).1 (hD.off np).2 hp, np, DKs.keeps (Nw.mono (fun _ z => z) (K3.news hD)) _ _ hds, dl3, hok, D3, by omega, by omega, K'.trans K3⟩
      · rintro σ H' ⟨p, vs, ds, x, o5, o6, o7, o8, rfl, hp, np, hds, dl3, hok, D', xa, xb, K'⟩
        have hbl : (bs.map V.ref).length ≤ 2 := by rw [List.length_map]; omega
        exact ⟨_, rfl, k p ds x H' D' xa (by omega) (K0.trans K') np ⟨vs, hp, DKs.keeps nw_some _ _ hds⟩ dl3 hok⟩
end
end K05

set_option Elab.async false
set_option linter.all false
set_option maxRecDepth 100000
set_option maxHeartbeats 4000000
/-! Needed beside due. -/
namespace K05
open PySem PySem.Spec PyProof.Rows L2 Mine
abbrev sRight : Stmt := top 40
def opD (o : Opn) : PyData := .tuple [.str o.w, .str o.k, .int o.g, .tuple (o.nn.map ndD)]
theorem nd_dk {H : Hp} {x : Addr} {n : Nd} (h : H x = some (.tup (ndV n))) : DK H (.ref x) (ndD n) := by
  cases n with
  | part j => exact .tup h (.cons (.str _) (.cons (.int _) .nil))
  | around c j => exact .tup h (.cons (.str _) (.cons (.str _) (.cons (.int _) .nil)))
  | inside j c => exact .tup h (.cons (.str _) (.cons (.int _) (.cons (.str _) .nil)))
theorem nds_dk {H : Hp} : ∀ {bs : List Addr} {nn : List Nd}, Paired (fun x n => H x = some (.tup (ndV n))) bs nn → DKs H (bs.map V.ref) (nn.map ndD)
  | _, _, .nil => .nil
  | _, _, .cons h r => .cons (nd_dk h) (nds_dk r)
theorem item_dk {H : Hp} {a : Addr} {o : Opn} (h : ItemAt H a o) : DK H (.ref a) (opD o) :=
  let ⟨_, _, h1, h2, h3⟩ := h
  .tup h1 (.cons (.str _) (.cons (.str _) (.cons (.int _) (.cons (.tup h2 (nds_dk h3)) .nil))))
theorem items_dk {H : Hp} : ∀ {as : List Addr} {os : List Opn}, Paired (ItemAt H) as os → DKs H (as.map V.ref) (os.map opD)
  | _, _, .nil => .nil
  | _, _, .cons h r => .cons (item_dk h) (items_dk r)
theorem sa_all {n l : Nat} : ∀ ds : List PyData, (∀ d ∈ ds, Shows n l d) → SA (n * ds.length) l ds.length ds
  | [], _ => SA.nil
  | d :: ds, h => by
    have := SA.cons (h d (List.mem_cons_self ..)) (sa_all ds fun x hx => h x (List.mem_cons_of_mem _ hx))
    rw [List.length_cons, Nat.mul_succ]
    exact this
theorem int_show {j : Int} (h0 : 0 ≤ j) (h1 : j < 4) : Shows 1 0 (.int j) := by
  have : j = 0 ∨ j = 1 ∨ j = 2 ∨ j = 3 := by omega
  rcases this with rfl | rfl | rfl | rfl <;> exact ⟨by decide +kernel, by decide +kernel, by decide +kernel⟩
theorem ww_shows : ∀ x ∈ WW, (PyData.shown (.str x)).length ≤ 10 := by decide +kernel
theorem ww_str {x : Str} (h : x ∈ WW) : Shows 10 0 (.str x) := ⟨by simp [PyData.showable], ww_shows x h, by simp [PyData.depth]⟩
theorem lit_str {x : Str} (h : (PyData.shown (.str x)).length ≤ 10 := by decide +kernel) : Shows 10 0 (.str x) := ⟨by simp [PyData.showable], h, by simp [PyData.depth]⟩
theorem w8_ww : ∀ x ∈ W8, x ∈ WW := by decide +kernel
theorem nd_show {m : Int} {ks : List (Str × Int)} {n : Nd} (h : NdOk m ks n) (h3 : m ≤ 3) (kw : ∀ p ∈ ks, p.1 ∈ WW) : Shows 40 1 (ndD n) := by
  cases n with
  | part j =>
    obtain ⟨j0, j1⟩ := h
    exact (SA.cons lit_str (SA.cons (int_show j0 (by omega)) SA.nil)).tuple.up (by decide) (Nat.le_refl _)
  | around c j =>
    obtain ⟨c1, j0, j1⟩ := h
    exact (SA.cons lit_str (SA.cons (ww_str (kw _ c1)) (SA.cons (int_show j0 (by omega)) SA.nil))).tuple.up (by decide) (Nat.le_refl _)
  | inside j c =>
    obtain ⟨c1, j0, j1⟩ := h
    exact (SA.cons lit_str (SA.cons (int_show j0 (by omega)) (SA.cons (ww_str (kw _ c1)) SA.nil))).tuple.up (by decide) (Nat.le_refl _)
theorem op_show {ks : List (Str × Int)} {o : Opn} (h : OpnOk ks o) (kw : ∀ p ∈ ks, p.1 ∈ WW) (kn : ∀ p ∈ ks, p.2 ≤ 3) : Shows 150 3 (opD o) := by
  obtain ⟨m, hm, g0, g1, nl, hn⟩ := h.ex
  have m3 : m ≤ 3 := kn _ hm
  have s1 : Shows 87 2 (.tuple (o.nn.map ndD)) := by
    have := (sa_all (n := 40) (l := 1) (o.nn.map ndD) fun d hd => by
      obtain ⟨n, hn1, rfl⟩ := List.mem_map.mp hd
      exact nd_show (hn n hn1) m3 kw).tuple
    rw [List.length_map] at this
    exact this.up (by omega) (by omega)
  exact (SA.cons ((ww_str h.ww).up (Nat.le_refl _) (Nat.zero_le 2)) (SA.cons ((ww_str (kw _ hm)).up (Nat.le_refl _) (Nat.zero_le 2)) (SA.cons ((int_show g0 (by omega)).up (Nat.le_refl _) (Nat.zero_le 2)) (SA.cons s1 SA.nil)))).tuple.up (by decide) (Nat.le_refl _)
theorem os_show {ks : List (Str × Int)} {os : List Opn} (h : ∀ o ∈ os, OpnOk ks o) (kw : ∀ p ∈ ks, p.1 ∈ WW) (kn : ∀ p ∈ ks, p.2 ≤ 3) (hl : os.length ≤ 20) : Shows 3100 4 (.tuple (os.map opD)) := by
  have := (sa_all (n := 150) (l := 3) (os.map opD) fun d hd => by
    obtain ⟨o, ho, rfl⟩ := List.mem_map.mp hd
    exact op_show (h o ho) kw kn).tuple
  rw [List.length_map] at this
  exact this.up (by omega) (by omega)
theorem ks_show {ks : List (Str × Int)} (kw : ∀ p ∈ ks, p.1 ∈ WW) (kn : ∀ p ∈ ks, 1 ≤ p.2 ∧ p.2 ≤ 3) (hl : ks.length ≤ 20) : Shows 500 2 (.tuple (ks.map kD)) := by
  have := (sa_all (n := 20) (l := 1) (ks.map kD) fun d hd => by
    obtain ⟨p, hp, rfl⟩ := List.mem_map.mp hd
    have := kn p hp
    exact (SA.cons (ww_str (kw p hp)) (SA.cons (int_show (j := p.2) (by omega) (by omega)) SA.nil)).tuple.up (by decide) (Nat.le_refl _)).tuple
  rw [List.length_map] at this
  exact this.up (by omega) (by omega)
theorem want_show {m : Int} {ks : List (Str × Int)} {n : Nd} {ds : List PyData} {d : PyData} (h : NdOk m ks n) (kw : ∀ p ∈ ks, p.1 ∈ WW) (hp : ∀ e ∈ ds, PartOk e) (e : wantD n ds = some d) : Shows 250 8 d := by
  cases n with
  | part j => exact (hp d (List.mem_of_getElem? e)).sh.up (by omega) (by omega)
  | around c j =>
    obtain ⟨x, hx, rfl⟩ := Option.map_eq_some_iff.mp e
    exact (SA.cons ((ww_str (kw _ h.1)).up (Nat.le_refl _) (Nat.zero_le 5)) (SA.cons (hp x (List.mem_of_getElem? hx)).sh SA.nil)).tuple.up (by decide) (by omega)
  | inside j c =>
    obtain ⟨x, hx, e⟩ := Option.bind_eq_some_iff.mp e
    have hq := hp x (List.mem_of_getElem? hx)
    rcases hq.ok.shape with ⟨c', rfl⟩ | ⟨c', d1, dr, rfl, hd1⟩
    · cases e
    · dsimp only at e
      by_cases hc : c' = c
      · rw [if_pos hc] at e
        cases e
        have s1 := hq.sh.ok
        have s2 := hq.sh.len
        have s3 := hq.sh.dep
        simp only [PyData.showable, PyData.showableAll, Bool.and_eq_true] at s1
        simp only [PyData.depth, PyData.depthAll] at s3
        refine ⟨s1.2.1, ?_, by omega⟩
        have s4 : (tupleText (PyData.shownAll (.str c' :: d :: dr))).length ≤ 200 := by simpa only [PyData.shown] using s2
        have s5 := tupleText_mem_le (t := d.shown) (ts := PyData.shownAll (.str c' :: d :: dr)) (by simp [PyData.shownAll])
        omega
      · rw [if_neg hc] at e
        cases e
theorem allSome_mem : ∀ {a : List (Option PyData)} {l : List PyData}, allSome a = some l → l.length = a.length ∧ ∀ d ∈ l, some d ∈ a
  | [], _, h => by cases h; exact ⟨rfl, fun _ z => (List.not_mem_nil z).elim⟩
  | none :: _, _, h => by cases h
  | some d :: r, l, h => by
    have h : (allSome r).map (d :: ·) = some l := h
    obtain ⟨l', e1, rfl⟩ := Option.map_eq_some_iff.mp h
    obtain ⟨h1, h2⟩ := allSome_mem e1
    refine ⟨by rw [List.length_cons, List.length_cons, h1], fun x hx => ?_⟩
    rcases List.mem_cons.mp hx with rfl | hx
    · exact List.mem_cons_self ..
    · exact List.mem_cons_of_mem _ (h2 x hx)
theorem needD_show {m : Int} {ks : List (Str × Int)} {nn : List Nd} {ds : List PyData} (h : ∀ n ∈ nn, NdOk m ks n) (nl : nn.length ≤ 2) (kw : ∀ p ∈ ks, p.1 ∈ WW) (hp : ∀ e ∈ ds, PartOk e) : Shows 520 9 (needD nn ds) := by
  unfold needD
  cases hl : allSome (nn.map fun n => wantD n ds) with
  | none => exact ⟨by decide +kernel, by decide +kernel, by decide +kernel⟩
  | some l =>
    obtain ⟨h1, h2⟩ := allSome_mem hl
    rw [List.length_map] at h1
    exact (sa_all (n := 250) (l := 8) l fun d hd => by
      obtain ⟨n, hn, e⟩ := List.mem_map.mp (h2 d hd)
      exact want_show (h n hn) kw hp e).tuple.up (by omega) (by omega)
theorem told_show {d : PyData} (h : Shows 520 9 d) : Shows sizeLine 20 (.list [d, d, d]) :=
  (SA.cons h (SA.cons h (SA.cons h SA.nil))).list.up (by rw [sizeLine_eq]; omega) (by omega)
/-- right's promise -/
def spRight (K : PySem.W.Frag) (C : Addr) : Sp := fun vs H Q _ => ∃ (dk dl x dx mk oo a : Addr) (t : Int) (ms : List V) (ks : List (Str × Int)) (as : List Addr) (os : List Opn) (o : Opn) (i0 : Nat), vs = [.ref dk, .ref x, .ref mk, .ref a] ∧ DeckAt H dk dl t ∧ MakesAt H mk ms ks ∧
  H x = some (.ins C dx (fsB mk oo)) ∧ H oo = some (.tup (as.map V.ref)) ∧ Paired (ItemAt H) as os ∧ os[i0]? = some o ∧ as[i0]? = some a ∧ (os.map (·.w)).Nodup ∧ (∀ o ∈ os, OpnOk ks o) ∧ os.length ≤ 20 ∧ 0 ≤ t ∧ t ≤ 40000 ∧
  ∀ (t' : Int) (H' : Hp), DeckAt H' dk dl t' → t ≤ t' → t' ≤ t + 200 → Keep dk dl H H' → Q (.bl true) H'
structure TxtR (K : PySem.W.Frag) (mg : Str → Option Value) (C fF fU fM : Addr) : Prop where
  cl : Cls K C
  nK : NoAttr K C "kinds"
  nO : NoAttr K C "openings"
  me : Meth K C "needed" fM
  repr : mg "repr" = none
  gF : mg "_law_fit" = some (.ref fF)
  kF : PySem.W.keepIn K (.ref fF) = true
  gU : mg "_law_due" = some (.ref fU)
  kU : PySem.W.keepIn K (.ref fU) = true
section
variable {P : Program} {w : World} {K : PySem.W.Frag} {mg : Str → Option Value} {base : Heap}
theorem scRight : FnScope ["_law_deck_here", "_law_code", "_law_makes", "_law_item", "_law_it", "_law_was", "_law_told"] ["_law_deck_here", "_law_code", "_law_makes", "_law_item"] (defScope sRight) := ⟨rfl, rfl, rfl, by decide +kernel, rfl, by decide +kernel, by decide +kernel⟩
theorem ok_right {f C fF fU fM : Addr} {fd dF dU dM : FuncData} (F : Fun K "_law_right" "_law_right" sRight f fd) (T : TxtR K mg C fF fU fM) (GF : FnOk P w K mg base CX0 9 fF dF ["_law_deck_here", "_law_makes", "_law_item"] spFit) (bF : Binds K dF ["_law_deck_here", "_law_makes", "_law_item"] [])
    (GU : FnOk P w K mg base CX0 2 fU dU ["_law_needs", "_law_it"] (spDue K)) (bU : Binds K dU ["_law_needs", "_law_it"] []) (GM : FnOk P w K mg base CX0 2 fM dM ["self", "opening", "thing"] (spNeeded K C)) (bM : Binds K dM ["self", "opening", "thing"] [])
    (bM2 : ∀ (s : Shared) (a u v : Value), BindsTo s dM ⟨[a], [(PySem.Str.ofString "thing", u), (PySem.Str.ofString "opening", v)]⟩ ((["self", "opening", "thing"] : List Str).zip [a, v, u])) :
    FnG P w K mg base 10 f fd ["_law_deck_here", "_law_code", "_law_makes", "_law_item"] (spRight K C) := by
  refine fnG_of F scRight (fun vs H Q E h => ?_) (fun cdv A outer s H vs Q E hr hgd h => ?_)
  · obtain ⟨_, _, _, _, _, _, _, _, _, _, _, _, _, _, rfl, _⟩ := h
    rfl
  · obtain ⟨dk, dl, x, dx, mk, oo, a, t, ms, ks, as, os, o, i0, rfl, hD, M, hx, hoo, hit, ho, ha, nd, ook, ol, t0, t1, k⟩ := h
    have hr2 : Room 2 _ := hr.mono (by decide)
    have hun : (A.deeper (envOfC "_law_right" (defScope sRight) s.heap.objs.size f cdv)).units + 40 < cLine := by
      have := hr.un
      omega
    refine ⟨_, pss_cons (ps_set (i := 4) scRight.nd rfl (.inl rfl) (pe_call GF hr rfl T.gF T.kF bF .nil pass0 (pa_cons (pv 0) (pa_cons (pv 2) (pa_cons (pv 3) pa_nil)))))
      (pss_cons (ps_set (i := 5) scRight.nd rfl (.inl rfl) (pe_callB (call_reprZ hgd hun) (by rfl) T.repr (by decide +kernel) (pa_cons (pe_lst (pa_cons (pv 4) (pa_cons (pe_fld (pv 1) rfl) (pa_cons (pe_fld (pv 1) rfl) pa_nil)))) pa_nil)))
      (pss_cons (ps_set (i := 6) scRight.nd rfl (.inl rfl) (pe_lst (pa_cons (pe_meth (pv 1) T.cl T.me GM hr2 bM .nil pass0 (pa_cons (pe_ix ix_tup (pv 3) pe_int (fun _ _ => rfl)) (pa_cons (pv 4) pa_nil)))
        (pa_cons (pe_methK2 (k1 := PySem.Str.ofString "thing") (k2 := PySem.Str.ofString "opening") (pv 1) T.cl T.me GM hr2 rfl bM2 (pk_cons (pv 4) (pk_cons (pe_ix ix_tup (pv 3) pe_int (fun _ _ => rfl)) pk_nil)))
        (pa_cons (pe_meth (pv 1) T.cl T.me GM hr2 bM .nil pass0 (pa_cons (pe_ix ix_tup (pv 3) pe_int (fun _ _ => rfl)) (pa_cons (pv 4) pa_nil))) pa_nil)))))
      (pss_one (ps_ret (pe_and (pe_cmpR op_eq (pe_callB (call_reprZ hgd hun) (by rfl) T.repr (by decide +kernel) (pa_cons (pv 6) pa_nil)) (pe_callB (call_reprZ hgd hun) (by rfl) T.repr (by decide +kernel) (pa_cons (pe_op op_rep (pe_lst (pa_cons (pe_call GU hr2 rfl T.gU T.kU bU .nil pass0 (pa_cons (pe_ix ix_tup (pv 3) pe_int (fun _ _ => rfl)) (pa_cons (pv 4) pa_nil))) pa_nil)) pe_int) pa_nil)) (nomark _))
        (pe_one (pe_cmpR op_eq (pe_callB (call_reprZ hgd hun) (by rfl) T.repr (by decide +kernel) (pa_cons (pe_lst (pa_cons (pv 4) (pa_cons (pe_fld (pv 1) rfl) (pa_cons (pe_fld (pv 1) rfl) pa_nil)))) pa_nil)) (pv 5) (nomark _)))))))), ?_⟩
    have kw8 : ∀ p ∈ ks, p.1 ∈ W8 := fun p hp => M.sub.subset (List.mem_map_of_mem hp)
    have kw : ∀ p ∈ ks, p.1 ∈ WW := fun p hp => w8_ww _ (kw8 p hp)
    have kl := sub_w8 M.sub
    obtain ⟨_, klen⟩ := M.len
    have hoK := ook o (List.mem_of_getElem? ho)
    obtain ⟨m, hkm, g0, g1, nl, hn⟩ := hoK.ex
    obtain ⟨o', ho', hI⟩ := paired_at hit ha
    rw [ho] at ho'
    cases ho'
    have mb := M.num _ hkm
    have m3 : m ≤ 3 := mb.2
    refine ⟨_, rfl, _, rfl, _, rfl, dk, dl, mk, a, t, m, ms, ks, o, rfl, hD, M, hI, hkm, hn, nl, t0, t1, fun th ds t' H1 D1 ta tb K1 nth hth hl hok => ?_⟩
    -- what stands in the heap from here on
    have hx1 : H1 x = some (.ins C dx (fsB mk oo)) := by
      obtain ⟨⟨_, h1, _⟩, ⟨_, h2, _⟩⟩ := hD
      exact K1 _ _ (ne_of hx h1 (by intro z; cases z)) (ne_of hx h2 (by intro z; cases z)) hx
    have hoo1 := K1.tup hD hoo
    have M1 := M.keep hD K1
    have hit1 : Paired (ItemAt H1) as os := paired_mono (fun _ _ => ItemAt.mono fun _ _ e => K1.tup hD e) hit
    have hI1 := ItemAt.mono (fun _ _ e => K1.tup hD e) hI
    obtain ⟨b, bs, ia, ib, ip⟩ := id hI1
    have pok := parts_ok hok
    have dsl : ds.length ≤ 3 := by omega
    have sIt := parts_show (c := o.k) hok dsl (kw8 _ hkm)
    have sOs := os_show ook kw (fun p hp => (M.num p hp).2) ol
    have sKs := ks_show kw M.num (by omega)
    have sNd := needD_show hn nl kw hok
    have wasS : Shows sizeLine 20 (.list [.tuple (.str o.k :: ds), .tuple (ks.map kD), .tuple (os.map opD)]) :=
      (SA.cons (sIt.up (Nat.le_refl _) (by omega : 6 ≤ 6)) (SA.cons (sKs.up (Nat.le_refl _) (by omega)) (SA.cons (sOs.up (Nat.le_refl _) (by omega)) SA.nil))).list.up (by rw [sizeLine_eq]; omega) (by omega)
    have wasZ : ∀ {H' : Hp}, Same H1 H' → DZs H' [.ref th, .ref mk, .ref oo] [.tuple (.str o.k :: ds), .tuple (ks.map kD), .tuple (os.map opD)] := fun s' => by
      obtain ⟨vs, e, r⟩ := hth.same s'
      obtain ⟨oz, ez, dz⟩ := M1.at_
      exact .cons (.dk (.tup e (.cons (.str _) r))) (.cons (.fz ⟨oz, s' _ _ ez, dz⟩ (DKs.keeps s' _ _ M1.ok)) (.cons (.dk (.tup (s' _ _ hoo1) (DKs.keeps s' _ _ (items_dk hit1)))) .nil))
    have opns : ∀ {H' : Hp}, Same H1 H' → OpnsAt K H' oo as os := fun s' => ⟨SqT.of (s' _ _ hoo1), paired_mono (fun _ _ h => OpnAt.same s' h.opn) hit1⟩
    have l3 : 3 ≤ sizeLine := by rw [sizeLine_eq]; decide
    have kh : ∀ {H' : Hp}, Same H1 H' → DeckAt H' dk dl t' ∧ Keep dk dl H H' := fun s' => by
      obtain ⟨⟨m1, x1, y1, z1⟩, ⟨cs, x2, y2⟩⟩ := D1
      exact ⟨⟨⟨m1, s' _ _ x1, y1, z1⟩, ⟨cs, s' _ _ x2, y2⟩⟩, fun b1 o1 e1 e2 e => s' _ _ (K1 _ _ e1 e2 e)⟩
    refine ⟨_, rfl, _, rfl, x, C, dx, _, _, rfl, hx1, T.cl, T.nK, rfl, _, rfl, x, C, dx, _, _, rfl, hx1, T.cl, T.nO, rfl, l3, fun p1 e1 => ⟨p1, _, _, rfl, upd_same, wasZ (same_new same_rfl e1), wasS, ?_⟩⟩
    have s1 : Same H1 (upd H1 p1 (.lst [.ref th, .ref mk, .ref oo])) := same_new same_rfl e1
    -- asked three times
    refine ⟨_, rfl, x, dx, _, rfl, s1 _ _ hx1, rfl, _, rfl, a, _, _, _, rfl, rfl, SqT.of (s1 _ _ ia), rfl, _, rfl, x, dx, mk, oo, th, as, os, o, i0, o.k, ds, m, ks, rfl, s1 _ _ hx1, opns s1, ho, nd, hn, nl, kl, hl, hth.same s1, pok, ol, fun v1 H2 s2' hv1 => ?_⟩
    have s2 := same_tr s1 s2'
    refine ⟨_, rfl, x, dx, _, rfl, s2 _ _ hx1, rfl, _, rfl, _, rfl, a, _, _, _, rfl, rfl, SqT.of (s2 _ _ ia), rfl, _, _, rfl, x, dx, mk, oo, th, as, os, o, i0, o.k, ds, m, ks, rfl, s2 _ _ hx1, opns s2, ho, nd, hn, nl, kl, hl, hth.same s2, pok, ol, fun v2 H3 s3' hv2 => ?_⟩
    have s3 := same_tr s2 s3'
    refine ⟨_, rfl, x, dx, _, rfl, s3 _ _ hx1, rfl, _, rfl, a, _, _, _, rfl, rfl, SqT.of (s3 _ _ ia), rfl, _, rfl, x, dx, mk, oo, th, as, os, o, i0, o.k, ds, m, ks, rfl, s3 _ _ hx1, opns s3, ho, nd, hn, nl, kl, hl, hth.same s3, pok, ol, fun v3 H4 s4' hv3 => ⟨l3, fun p2 e2 => ?_⟩⟩
    have s45 : Same H4 (upd H4 p2 (.lst [v1, v2, v3])) := same_new same_rfl e2
    have s5 := same_tr (same_tr s3 s4') s45
    have told : DZs (upd H4 p2 (.lst [v1, v2, v3])) [v1, v2, v3] [needD o.nn ds, needD o.nn ds, needD o.nn ds] :=
      .cons (.dk (DK.keeps (same_tr (same_tr s3' s4') s45) _ _ hv1)) (.cons (.dk (DK.keeps (same_tr s4' s45) _ _ hv2)) (.cons (.dk (DK.keeps s45 _ _ hv3)) .nil))
    refine ⟨_, rfl, p2, _, _, rfl, upd_same, told, told_show sNd, ?_⟩
    refine ⟨_, rfl, a, _, _, _, rfl, rfl, SqT.of (s5 _ _ ia), rfl, _, rfl, b, th, bs, o.nn, o.k, ds, m, ks, rfl, SqT.of (s5 _ _ ib), paired_mono (fun _ _ e => SqT.of (s5 _ _ e)) ip, hn, nl, kl, hl, hth.same s5, pok, fun v H6 s6' hv => ⟨(by show 1 ≤ sizeLine; rw [sizeLine_eq]; decide), fun p3 e3 => ?_⟩⟩
    have s67 : Same H6 (upd H6 p3 (.lst [v])) := same_new same_rfl e3
    refine ⟨p3, 3, _, rfl, rfl, upd_same, by decide, by decide, (by show 1 * 3 ≤ sizeLine; rw [sizeLine_eq]; decide), fun p4 e4 => ?_⟩
    have s78 : Same (upd H6 p3 (.lst [v])) (upd (upd H6 p3 (.lst [v])) p4 (.lst (List.replicate (3 : Int).toNat [v]).flatten)) := same_new same_rfl e4
    have s8 := same_tr s5 (same_tr s6' (same_tr s67 s78))
    have hv8 := DK.keeps (same_tr s67 s78) _ _ hv
    refine ⟨p4, [v, v, v], [needD o.nn ds, needD o.nn ds, needD o.nn ds], rfl, upd_same, .cons (.dk hv8) (.cons (.dk hv8) (.cons (.dk hv8) .nil)), told_show sNd, rfl, _, rfl, ite2 (fun _ => ?_) (fun z => absurd (decide_eq_true rfl) z)⟩
    refine ⟨_, rfl, _, rfl, x, C, dx, _, _, rfl, s8 _ _ hx1, T.cl, T.nK, rfl, _, rfl, x, C, dx, _, _, rfl, s8 _ _ hx1, T.cl, T.nO, rfl, l3, fun p5 e5 => ?_⟩
    have s9 := same_new (o := .lst [.ref th, .ref mk, .ref oo]) s8 e5
    refine ⟨p5, _, _, rfl, upd_same, wasZ s9, wasS, _, rfl, rfl, ?_⟩
    rw [decide_eq_true rfl]
    obtain ⟨D9, K9⟩ := kh s9
    exact k t' _ D9 ta tb K9
end
end K05

set_option Elab.async false
set_option linter.all false
set_option maxRecDepth 100000
set_option maxHeartbeats 4000000
/-! Drawn books are right; the standard one. -/
namespace K05
open PySem PySem.Spec PyProof.Rows L2 Mine
abbrev sStd : Stmt := top 17
theorem nd_of {m : Int} {ks : List (Str × Int)} {d : PyData} (h : NeedOk m (singles ks) d) : ∃ n, d = ndD n ∧ NdOk m ks n := by
  rcases h with ⟨j, j0, j1, rfl⟩ | ⟨c, j, hc, j0, j1, rfl⟩ | ⟨c, j, hc, j0, j1, rfl⟩
  · exact ⟨.part j, rfl, j0, j1⟩
  · exact ⟨.around c j, rfl, singles_mem hc, j0, j1⟩
  · exact ⟨.inside j c, rfl, singles_mem hc, j0, j1⟩
theorem nds_of {m : Int} {ks : List (Str × Int)} : ∀ {l : List PyData}, (∀ d ∈ l, NeedOk m (singles ks) d) → ∃ nn : List Nd, l = nn.map ndD ∧ ∀ n ∈ nn, NdOk m ks n
  | [], _ => ⟨[], rfl, fun _ z => (List.not_mem_nil z).elim⟩
  | d :: l, h => by
    obtain ⟨n, rfl, hn⟩ := nd_of (h d (List.mem_cons_self ..))
    obtain ⟨nn, rfl, hnn⟩ := nds_of (l := l) fun x hx => h x (List.mem_cons_of_mem _ hx)
    exact ⟨n :: nn, rfl, fun x hx => by
      rcases List.mem_cons.mp hx with rfl | hx
      · exact hn
      · exact hnn x hx⟩
theorem w6_ww : ∀ x ∈ W6, x ∈ WW := by decide +kernel
theorem w6_out : ∀ x ∈ W6, x ∉ W8 := by decide +kernel
theorem ops_of {ks : List (Str × Int)} (sub : (ks.map (·.1)).Sublist W8) : ∀ {os : List Op}, (∀ o ∈ os, OpOk ks o) → (∀ o ∈ os, o.w ∈ W6) → ∃ os' : List Opn, os.map oD = os'.map opD ∧ os'.map (·.w) = os.map (·.w) ∧ ∀ o ∈ os', OpnOk ks o
  | [], _, _ => ⟨[], rfl, rfl, fun _ z => (List.not_mem_nil z).elim⟩
  | o :: os, h, hw => by
    obtain ⟨os', e1, e2, h'⟩ := ops_of sub (os := os) (fun x hx => h x (List.mem_cons_of_mem _ hx)) fun x hx => hw x (List.mem_cons_of_mem _ hx)
    obtain ⟨m, hm, g0, g1, nl, hn⟩ := (h o (List.mem_cons_self ..)).ex
    obtain ⟨nn, en, hnn⟩ := nds_of hn
    have w6 := hw o (List.mem_cons_self ..)
    refine ⟨⟨o.w, o.k, o.g, nn⟩ :: os', ?_, ?_, fun x hx => ?_⟩
    · rw [List.map_cons, List.map_cons, e1]
      show oD o :: _ = opD ⟨o.w, o.k, o.g, nn⟩ :: _
      unfold oD opD
      rw [en]
    · rw [List.map_cons, List.map_cons, e2]
    · rcases List.mem_cons.mp hx with rfl | hx
      · exact ⟨w6_ww _ w6, fun z => w6_out _ w6 (sub.subset z), m, hm, g0, g1, by rw [en, List.length_map] at nl; exact nl, hnn⟩
      · exact h' x hx
theorem nd_at {H : Hp} {v : V} {n : Nd} (h : DK H v (ndD n)) : ∃ a, v = .ref a ∧ H a = some (.tup (ndV n)) := by
  cases n with
  | part j =>
    cases h with
    | tup e r =>
      cases r with
      | cons h1 r =>
        cases h1
        cases r with
        | cons h2 r =>
          cases h2
          cases r
          exact ⟨_, rfl, e⟩
  | around c j =>
    cases h with
    | tup e r =>
      cases r with
      | cons h1 r =>
        cases h1
        cases r with
        | cons h2 r =>
          cases h2
          cases r with
          | cons h3 r =>
            cases h3
            cases r
            exact ⟨_, rfl, e⟩
  | inside j c =>
    cases h with
    | tup e r =>
      cases r with
      | cons h1 r =>
        cases h1
        cases r with
        | cons h2 r =>
          cases h2
          cases r with
          | cons h3 r =>
            cases h3
            cases r
            exact ⟨_, rfl, e⟩
theorem nds_at {H : Hp} : ∀ {vs : List V} {nn : List Nd}, DKs H vs (nn.map ndD) → ∃ bs : List Addr, vs = bs.map V.ref ∧ Paired (fun x n => H x = some (.tup (ndV n))) bs nn
  | _, [], h => by cases h; exact ⟨[], rfl, .nil⟩
  | _, n :: nn, h => by
    cases h with
    | cons h1 h2 =>
      obtain ⟨a, rfl, e⟩ := nd_at h1
      obtain ⟨bs, rfl, r⟩ := nds_at h2
      exact ⟨a :: bs, rfl, .cons e r⟩
theorem item_at {H : Hp} {v : V} {o : Opn} (h : DK H v (opD o)) : ∃ a, v = .ref a ∧ ItemAt H a o := by
  cases h with
  | tup e r =>
    cases r with
    | cons h1 r =>
      cases h1
      cases r with
      | cons h2 r =>
        cases h2
        cases r with
        | cons h3 r =>
          cases h3
          cases r with
          | cons h4 r =>
            cases r
            cases h4 with
            | tup e4 r4 =>
              obtain ⟨bs, rfl, p⟩ := nds_at r4
              exact ⟨_, rfl, _, bs, e, e4, p⟩
theorem items_at {H : Hp} : ∀ {vs : List V} {os : List Opn}, DKs H vs (os.map opD) → ∃ as : List Addr, vs = as.map V.ref ∧ Paired (ItemAt H) as os
  | _, [], h => by cases h; exact ⟨[], rfl, .nil⟩
  | _, o :: os, h => by
    cases h with
    | cons h1 h2 =>
      obtain ⟨a, rfl, e⟩ := item_at h1
      obtain ⟨as, rfl, r⟩ := items_at h2
      exact ⟨a :: as, rfl, .cons e r⟩
def Lt (a b : Str) : Prop := a.cps.toList < b.cps.toList
instance : DecidableRel Lt := fun a b => inferInstanceAs (Decidable (a.cps.toList < b.cps.toList))
theorem asc_of {l : List Str} (h : l.Pairwise Lt) : Asc l := by
  intro i a b ha hb
  obtain ⟨h1, e1⟩ := List.getElem?_eq_some_iff.mp ha
  obtain ⟨h2, e2⟩ := List.getElem?_eq_some_iff.mp hb
  have := List.pairwise_iff_getElem.mp h i (i + 1) h1 h2 (Nat.lt_succ_self i)
  rw [e1, e2] at this
  exact this
theorem w8_lt : W8.Pairwise Lt := by decide +kernel
theorem w6_lt : W6.Pairwise Lt := by decide +kernel
theorem w6_nodup : W6.Nodup := by decide +kernel
theorem ks_ok {ks : List (Str × Int)} {os : List Op} (h : KitOk ks os) : KsOk ks := by
  refine ⟨h.ne, fun p hp => w8_ww _ (h.sub.subset (List.mem_map_of_mem hp)), h.num, asc_of (w8_lt.sublist h.sub), h.sub.nodup w8_nodup, ?_⟩
  have := h.sub.length_le
  rw [List.length_map] at this
  have e : W8.length = 8 := rfl
  omega
theorem os_len {ks : List (Str × Int)} {os : List Op} (h : KitOk ks os) : os.length ≤ 6 := by
  have := h.osub.length_le
  rw [List.length_map] at this
  exact this
def sk (s : String) (n : Int) : Str × Int := (PySem.Str.ofString s, n)
def stdKs : List (Str × Int) := [(PySem.Str.ofString "half", 1), (PySem.Str.ofString "lock", 2), (PySem.Str.ofString "mark", 1), (PySem.Str.ofString "pair", 2), (PySem.Str.ofString "seal", 2), (PySem.Str.ofString "sign", 2)]
def stdOs : List Opn := [⟨PySem.Str.ofString "first", PySem.Str.ofString "pair", 0, []⟩, ⟨PySem.Str.ofString "open", PySem.Str.ofString "lock", 0, [.part 1]⟩, ⟨PySem.Str.ofString "second", PySem.Str.ofString "pair", 1, []⟩, ⟨PySem.Str.ofString "shown", PySem.Str.ofString "sign", 0, []⟩,
  ⟨PySem.Str.ofString "signed", PySem.Str.ofString "sign", 0, [.around (PySem.Str.ofString "half") 1]⟩, ⟨PySem.Str.ofString "unseal", PySem.Str.ofString "seal", 0, [.inside 1 (PySem.Str.ofString "half")]⟩]
theorem std_ks : KsOk stdKs := ⟨by decide +kernel, by decide +kernel, by decide +kernel, asc_of (by decide +kernel), by decide +kernel, by decide +kernel⟩
theorem std_str : ∀ p ∈ stdKs, PyData.strOk p.1 = true := by decide +kernel
theorem std_os : OsOk stdKs stdOs := by
  refine ⟨fun o ho => ?_, asc_of (by decide +kernel), by decide +kernel⟩
  simp only [stdOs, List.mem_cons, List.not_mem_nil, or_false] at ho
  have no : ∀ {m : Int}, ∀ n ∈ ([] : List Nd), NdOk m stdKs n := fun _ z => (List.not_mem_nil z).elim
  have one : ∀ {m : Int} {n0 : Nd}, NdOk m stdKs n0 → ∀ n ∈ [n0], NdOk m stdKs n := fun h n hn => by
    rw [List.mem_singleton.mp hn]
    exact h
  rcases ho with rfl | rfl | rfl | rfl | rfl | rfl
  · exact ⟨by decide +kernel, by decide +kernel, 2, by decide +kernel, by decide, by decide, by decide, no⟩
  · exact ⟨by decide +kernel, by decide +kernel, 2, by decide +kernel, by decide, by decide, by decide, one ⟨by decide, by decide⟩⟩
  · exact ⟨by decide +kernel, by decide +kernel, 2, by decide +kernel, by decide, by decide, by decide, no⟩
  · exact ⟨by decide +kernel, by decide +kernel, 2, by decide +kernel, by decide, by decide, by decide, no⟩
  · exact ⟨by decide +kernel, by decide +kernel, 2, by decide +kernel, by decide, by decide, by decide, one ⟨by decide +kernel, by decide, by decide⟩⟩
  · exact ⟨by decide +kernel, by decide +kernel, 2, by decide +kernel, by decide, by decide, by decide, one ⟨by decide +kernel, by decide, by decide⟩⟩
/-- the constants of the standard book as the top has left them -/
structure Std (K : PySem.W.Frag) (kk oo : Addr) (ps as : List Addr) : Prop where
  ks : ∀ H, KindsAt K H kk ps stdKs
  os : ∀ H, OpnsAt K H oo as stdOs
structure TxtS (K : PySem.W.Frag) (mg : Str → Option Value) (C kk oo : Addr) : Prop where
  gB : mg "Book" = some (.ref C)
  gK : ∃ u, mg "STANDARD_KINDS" = some u ∧ RelV (.ref kk) u
  gO : ∃ u, mg "STANDARD_OPENINGS" = some u ∧ RelV (.ref oo) u
def spStd (C kk oo : Addr) : Sp := fun vs H Q _ => vs = [] ∧ ∀ x dx H', Same H H' → H' x = some (.ins C dx (fsB kk oo)) → Q (.ref x) H'
section
variable {P : Program} {w : World} {K : PySem.W.Frag} {mg : Str → Option Value} {base : Heap}
theorem scStd : FnScope [] [] (defScope sStd) := ⟨rfl, rfl, rfl, by decide +kernel, rfl, by decide +kernel, by decide +kernel⟩
/-- a book made -/
theorem made {C kk oo : Addr} {ps as : List Addr} {ks : List (Str × Int)} {os : List Opn} {H : Hp} {G : V → Hp → Prop} {E : XK} (hk : KindsAt K H kk ps ks) (kok : KsOk ks) (ho : OpnsAt K H oo as os) (ook : OsOk ks os) (k : ∀ x dx H', Same H H' → H x = none → H' x = some (.ins C dx (fsB kk oo)) → G (.ref x) H') :
    ∀ x dx, H x = none → H dx = none → dx ≠ x → spInit K C (.ref x :: ([.ref kk, .ref oo] ++ [])) (upd (upd H dx (.own x)) x (.ins C dx [])) (fun v H2 => v = .non ∧ G (.ref x) H2) E := by
  intro x dx hx hdx ne
  have s1 : Same H (upd (upd H dx (.own x)) x (.ins C dx [])) := fun b o e => (upd_ne (ne_of_none e hx)).trans ((upd_ne (ne_of_none e hdx)).trans e)
  exact ⟨x, dx, kk, oo, ps, as, ks, os, rfl, upd_same, hk.same s1, kok, ho.same s1, ook, fun H' keep hx' => ⟨rfl, k x dx H' (fun b o e => keep b o (ne_of_none e hx) (s1 _ _ e)) hx hx'⟩⟩
theorem ok_std {f C fI kk oo : Addr} {ps as : List Addr} {fd dI : FuncData} (F : Fun K "standard_book" "standard_book" sStd f fd) (T : TxtS K mg C kk oo) (S : Std K kk oo ps as) (M : Mk K C fI) (GI : FnOk P w K mg base CX0 6 fI dI ["self", "kinds", "openings"] (spInit K C)) (bI : Binds K dI ["self", "kinds", "openings"] []) :
    FnOk P w K mg base CX0 8 f fd [] (spStd C kk oo) := by
  refine F.ok scStd (fun vs H Q E h => ?_) (fun cdv A outer s H vs Q E hr h => ?_)
  · obtain ⟨rfl, _⟩ := h
    rfl
  · obtain ⟨rfl, k⟩ := h
    refine ⟨_, pss_one (ps_ret (pe_make M GI hr rfl T.gB bI .nil pass0 (pa_cons (C8.pe_gc (v := .ref kk) rfl T.gK) (pa_cons (C8.pe_gc (v := .ref oo) rfl T.gO) pa_nil)))), ?_⟩
    exact made (S.ks H) std_ks (S.os H) std_os fun x dx H' s' _ hx' => k x dx H' s' hx'
end
end K05

set_option Elab.async false
set_option linter.all false
set_option maxRecDepth 100000
set_option maxHeartbeats 4000000
/-! The law. -/
namespace K05
open PySem PySem.Spec PyProof.Rows L2 Mine
abbrev sLaw : Stmt := top 41
def spLaw (K : PySem.W.Frag) : Sp := fun vs H Q _ => ∃ (a : Addr) (ns : List Int), vs = [.ref a] ∧ SqL K H a (ns.map V.int) ∧ ns.length ≤ 63 ∧ ∀ H', Q (.bl true) H'
structure TxtL (K : PySem.W.Frag) (mg : Str → Option Value) (C fK fT fR fS fM : Addr) : Prop where
  cl : Cls K C
  me : Meth K C "needed" fM
  range : mg "range" = none
  repr : mg "repr" = none
  gB : mg "Book" = some (.ref C)
  gK : mg "_law_deck" = some (.ref fK)
  kK : PySem.W.keepIn K (.ref fK) = true
  gT : mg "_law_kit" = some (.ref fT)
  kT : PySem.W.keepIn K (.ref fT) = true
  gR : mg "_law_right" = some (.ref fR)
  kR : PySem.W.keepIn K (.ref fR) = true
  gS : mg "standard_book" = some (.ref fS)
  kS : PySem.W.keepIn K (.ref fS) = true
abbrev st (s : String) : PyData := .str (PySem.Str.ofString s)
abbrev d1s : List PyData := [.str (PySem.Str.ofString "K"), .tuple [.str (PySem.Str.ofString "half"), .str (PySem.Str.ofString "S")]]
abbrev d2s : List PyData := [.str (PySem.Str.ofString "K"), .str (PySem.Str.ofString "S")]
abbrev d3s : List PyData := [.str (PySem.Str.ofString "K"), .tuple [.str (PySem.Str.ofString "mark"), .str (PySem.Str.ofString "S")]]
abbrev d4s : List PyData := [.str (PySem.Str.ofString "a"), .str (PySem.Str.ofString "S")]
abbrev d5s : List PyData := [.str (PySem.Str.ofString "a"), .tuple [.str (PySem.Str.ofString "pair"), .str (PySem.Str.ofString "b"), .str (PySem.Str.ofString "K")]]
abbrev d6s : List PyData := [.str (PySem.Str.ofString "a"), .str (PySem.Str.ofString "b")]
theorem leafOk {c : Str} (h : PyData.strOk c = true := by decide +kernel) : ThingOk (.str c) ∧ PyData.depth (.str c) ≤ 10 := ⟨⟨.inl ⟨c, rfl⟩, by simp only [PyData.canLay0]; exact h⟩, by simp [PyData.depth]⟩
theorem tupOk {c e : Str} {r : List PyData} (h : PyData.canLay0 (.tuple (.str c :: .str e :: r)) = true := by decide +kernel) (h2 : PyData.depth (.tuple (.str c :: .str e :: r)) ≤ 10 := by decide +kernel) : ThingOk (.tuple (.str c :: .str e :: r)) ∧ PyData.depth (.tuple (.str c :: .str e :: r)) ≤ 10 :=
  ⟨⟨.inr ⟨c, .str e, r, rfl, .inl ⟨e, rfl⟩⟩, h⟩, h2⟩
theorem parts2 {x y : PyData} (hx : ThingOk x ∧ x.depth ≤ 10) (hy : ThingOk y ∧ y.depth ≤ 10) : PartsOk [x, y] := fun d hd => by
  simp only [List.mem_cons, List.not_mem_nil, or_false] at hd
  rcases hd with rfl | rfl
  · exact hx
  · exact hy
abbrev nn5 : List Nd := [.inside 1 (PySem.Str.ofString "half")]
abbrev nn4 : List Nd := [.around (PySem.Str.ofString "half") 1]
abbrev nn1 : List Nd := [.part 1]
abbrev so5 : Opn := ⟨PySem.Str.ofString "unseal", PySem.Str.ofString "seal", 0, nn5⟩
abbrev so4 : Opn := ⟨PySem.Str.ofString "signed", PySem.Str.ofString "sign", 0, nn4⟩
abbrev so1 : Opn := ⟨PySem.Str.ofString "open", PySem.Str.ofString "lock", 0, nn1⟩
abbrev so0 : Opn := ⟨PySem.Str.ofString "first", PySem.Str.ofString "pair", 0, []⟩
abbrev gotD : List PyData := [needD nn5 d1s, needD nn5 d2s, needD nn5 d3s, needD nn4 d4s, needD nn1 d5s, needD [] d6s]
abbrev expD : List PyData := [.tuple [.str (PySem.Str.ofString "S")], .none, .none, .tuple [.tuple [.str (PySem.Str.ofString "half"), .str (PySem.Str.ofString "S")]], .tuple [.tuple [.str (PySem.Str.ofString "pair"), .str (PySem.Str.ofString "b"), .str (PySem.Str.ofString "K")]], .tuple []]
theorem same_txt : PyData.shown (.list gotD) = PyData.shown (.list expD) := by decide +kernel
theorem got_show : Shows sizeLine 20 (.list gotD) := ⟨by decide +kernel, by decide +kernel, by decide +kernel⟩
theorem exp_show : Shows sizeLine 20 (.list expD) := ⟨by decide +kernel, by decide +kernel, by decide +kernel⟩
theorem std_nodup : (stdOs.map (·.w)).Nodup := by decide +kernel
theorem half1 : ((PySem.Str.ofString "half" : Str), (1 : Int)) ∈ stdKs := by decide +kernel
theorem dzs_app {H : Hp} : ∀ {a : List V} {b : List PyData}, DKs H a b → DZs H a b
  | _, _, .nil => .nil
  | _, _, .cons h r => .cons (.dk h) (dzs_app r)
section
variable {P : Program} {w : World} {K : PySem.W.Frag} {mg : Str → Option Value} {base : Heap}
theorem ask {H : Hp} {Q : VK} {E : XK} {C x dx kk oo th : Addr} {ps as : List Addr} {c : Str} {ds : List PyData} (S : Std K kk oo ps as) (i0 : Nat) (o : Opn) (ho : stdOs[i0]? = some o) (hm : (ds.length : Int) = 2) (hn : ∀ n ∈ o.nn, NdOk 2 stdKs n) (nl : o.nn.length ≤ 2)
    (hx : H x = some (.ins C dx (fsB kk oo))) (hth : ThAt H th c ds) (hp : PartsOk ds) (k : ∀ v H', Same H H' → DK H' v (needD o.nn ds) → Q v H') : spNeeded K C [.ref x, .str o.w, .ref th] H Q E :=
  ⟨x, dx, kk, oo, th, as, stdOs, o, i0, c, ds, 2, stdKs, rfl, hx, S.os H, ho, std_nodup, hn, nl, std_str, hm, hth, hp, by decide +kernel, k⟩
theorem n5 : ∀ n ∈ nn5, NdOk 2 stdKs n := fun n hn => by
  rw [List.mem_singleton.mp hn]
  exact ⟨half1, by decide, by decide⟩
theorem n4 : ∀ n ∈ nn4, NdOk 2 stdKs n := fun n hn => by
  rw [List.mem_singleton.mp hn]
  exact ⟨half1, by decide, by decide⟩
theorem n1 : ∀ n ∈ nn1, NdOk 2 stdKs n := fun n hn => by
  rw [List.mem_singleton.mp hn]
  exact ⟨by decide, by decide⟩
theorem scLaw : FnScope ["_law_script", "_law_deck_here", "_law_turn", "_law_makes", "_law_taking", "_law_code", "_law_item", "_law_again", "_law_plain", "_law_told"] ["_law_script"] (defScope sLaw) := ⟨rfl, rfl, rfl, by decide +kernel, rfl, by decide +kernel, by decide +kernel⟩
theorem ok_law {f C fK fT fR fS fM fI kk oo : Addr} {ps0 as0 : List Addr} {fd dK dT dR dS dM dI : FuncData} (F : Fun K "law" "law" sLaw f fd) (T : TxtL K mg C fK fT fR fS fM) (S : Std K kk oo ps0 as0)
    (GK : FnOk P w K mg base CX0 1 fK dK ["_law_script"] (spDeck K)) (bK : Binds K dK ["_law_script"] [])
    (GT : FnOk P w K mg base CX0 4 fT dT ["_law_deck_here"] spKit) (bT : Binds K dT ["_law_deck_here"] [])
    (M : Mk K C fI) (GI : FnOk P w K mg base CX0 6 fI dI ["self", "kinds", "openings"] (spInit K C)) (bI : Binds K dI ["self", "kinds", "openings"] [])
    (GS : FnOk P w K mg base CX0 8 fS dS [] (spStd C kk oo)) (bS : Binds K dS [] [])
    (GM : FnOk P w K mg base CX0 2 fM dM ["self", "opening", "thing"] (spNeeded K C)) (bM : Binds K dM ["self", "opening", "thing"] [])
    (GR : FnG P w K mg base 10 fR dR ["_law_deck_here", "_law_code", "_law_makes", "_law_item"] (spRight K C)) (bR : Binds K dR ["_law_deck_here", "_law_code", "_law_makes", "_law_item"] []) :
    FnG P w K mg base 11 f fd ["_law_script"] (spLaw K) := by
  refine fnG_of F scLaw (fun vs H Q E h => ?_) (fun cdv A outer s H vs Q E hr hgd h => ?_)
  · obtain ⟨a, ns, rfl, _⟩ := h
    rfl
  · obtain ⟨a, ns, rfl, hS, hlen, k⟩ := h
    have hr1 : Room 1 _ := hr.mono (by decide)
    have hr2 : Room 2 _ := hr.mono (by decide)
    have hr4 : Room 4 _ := hr.mono (by decide)
    have hr7 : Room 7 _ := hr.mono (by decide)
    have hr8 : Room 8 _ := hr.mono (by decide)
    have hun : (A.deeper (envOfC "law" (defScope sLaw) s.heap.objs.size f cdv)).units + 40 < cLine := by
      have := hr.un
      omega
    refine ⟨_, pss_cons (ps_set (i := 1) scLaw.nd rfl (.inl rfl) (pe_call GK hr1 rfl T.gK T.kK bK .nil pass0 (pa_cons (pv 0) pa_nil)))
      (pss_cons (ps_for PassesOwn.never rfl (pi_range1 rfl T.range (pa_cons pe_int pa_nil)) (pg_name (i := 2) scLaw.nd rfl (.inl rfl))
        (pss_cons (ps_asg (pe_call GT hr4 rfl T.gT T.kT bT .nil pass0 (pa_cons (pv 1) pa_nil)) (pg_tup rfl (pgs_cons (pg_name (i := 3) scLaw.nd rfl (.inl rfl)) (pgs_cons (pg_name (i := 4) scLaw.nd rfl (.inl rfl)) pgs_nil))))
        (pss_cons (ps_set (i := 5) scLaw.nd rfl (.inl rfl) (pe_make M GI hr7 rfl T.gB bI .nil pass0 (pa_cons (pv 3) (pa_cons (pv 4) pa_nil))))
        (pss_one (ps_for PassesOwn.never rfl (pi_tup (pv 4)) (pg_name (i := 6) scLaw.nd rfl (.inl rfl))
          (pss_one (ps_for PassesOwn.never rfl (pi_range1 rfl T.range (pa_cons pe_int pa_nil)) (pg_name (i := 7) scLaw.nd rfl (.inl rfl))
            (pss_one (ps_if (pt_not (pt_val (pe_callG GR hr hgd rfl T.gR T.kR bR (pa_cons (pv 1) (pa_cons (pv 5) (pa_cons (pv 3) (pa_cons (pv 6) pa_nil))))))) (pss_one (ps_ret pe_bl)) pss_nil)))))))))
      (pss_cons (ps_set (i := 8) scLaw.nd rfl (.inl rfl) (pe_call0 GS hr8 rfl T.gS T.kS bS .nil pass0))
      (pss_cons (ps_set (i := 9) scLaw.nd rfl (.inl rfl) (pe_lst (pa_cons (pe_meth (pv 8) T.cl T.me GM hr2 bM .nil pass0 (pa_cons pe_str (pa_cons (pe_tup (pa_cons pe_str (pa_cons pe_str (pa_cons (pe_tup (pa_cons pe_str (pa_cons pe_str pa_nil))) pa_nil)))) pa_nil)))
        (pa_cons (pe_meth (pv 8) T.cl T.me GM hr2 bM .nil pass0 (pa_cons pe_str (pa_cons (pe_tup (pa_cons pe_str (pa_cons pe_str (pa_cons pe_str pa_nil)))) pa_nil))) pa_nil))))
      (pss_cons (ps_set (i := 9) scLaw.nd rfl (.inl rfl) (pe_op op_cat (pv 9) (pe_lst (pa_cons (pe_meth (pv 8) T.cl T.me GM hr2 bM .nil pass0 (pa_cons pe_str (pa_cons (pe_tup (pa_cons pe_str (pa_cons pe_str (pa_cons (pe_tup (pa_cons pe_str (pa_cons pe_str pa_nil))) pa_nil)))) pa_nil)))
        (pa_cons (pe_meth (pv 8) T.cl T.me GM hr2 bM .nil pass0 (pa_cons pe_str (pa_cons (pe_tup (pa_cons pe_str (pa_cons pe_str (pa_cons pe_str pa_nil)))) pa_nil))) pa_nil)))))
      (pss_cons (ps_set (i := 9) scLaw.nd rfl (.inl rfl) (pe_op op_cat (pv 9) (pe_lst (pa_cons (pe_meth (pv 8) T.cl T.me GM hr2 bM .nil pass0 (pa_cons pe_str (pa_cons (pe_tup (pa_cons pe_str (pa_cons pe_str (pa_cons (pe_tup (pa_cons pe_str (pa_cons pe_str (pa_cons pe_str pa_nil)))) pa_nil)))) pa_nil)))
        (pa_cons (pe_meth (pv 8) T.cl T.me GM hr2 bM .nil pass0 (pa_cons pe_str (pa_cons (pe_tup (pa_cons pe_str (pa_cons pe_str (pa_cons pe_str pa_nil)))) pa_nil))) pa_nil)))))
      (pss_one (ps_ret (pe_cmpR op_eq (pe_callB (call_reprZ hgd hun) (by rfl) T.repr (by decide +kernel) (pa_cons (pv 9) pa_nil))
        (pe_callB (call_reprZ hgd hun) (by rfl) T.repr (by decide +kernel) (pa_cons (pe_lst (pa_cons (pe_tup (pa_cons pe_str pa_nil)) (pa_cons pe_non (pa_cons pe_non (pa_cons (pe_tup (pa_cons (pe_tup (pa_cons pe_str (pa_cons pe_str pa_nil))) pa_nil))
          (pa_cons (pe_tup (pa_cons (pe_tup (pa_cons pe_str (pa_cons pe_str (pa_cons pe_str pa_nil)))) pa_nil)) (pa_cons (pe_tup pa_nil) pa_nil))))))) pa_nil)) (nomark _))))))))), ?_⟩
    refine ⟨_, rfl, a, ns, rfl, hS, hlen, fun dk dl H1 S1 _ _ D1 => ?_⟩
    refine ⟨_, rfl, by decide, by decide, ?_⟩
    refine for_range (lo := 0) (n := 5) (fun n σ H' => ∃ (t : Int) (o2 o3 o4 o5 o6 o7 o8 o9 : Option V), σ = [some (.ref a), some (.ref dk), o2, o3, o4, o5, o6, o7, o8, o9] ∧ DeckAt H' dk dl t ∧ 0 ≤ t ∧ t ≤ (n : Int) * 5000)
      ⟨0, none, none, none, none, none, none, none, none, rfl, D1, by omega, by omega⟩ ?_ ?_
    · rintro n σ H2 hn ⟨t, o2, o3, o4, o5, o6, o7, o8, o9, rfl, D2, ta, tb⟩
      have hn5 : (n : Int) ≤ 4 := by omega
      refine ⟨_, rfl, dk, dl, t, rfl, D2, ta, by omega, fun r p1 p2 vs ws ks os t1 H3 D3 tc td K3 nr np1 np2 er e1 e2 hv hw ok => ?_⟩
      refine ⟨r, _, rfl, SqT.of er, rfl, _, _, rfl, _, _, rfl, rfl, ?_⟩
      have w6 : ∀ o ∈ os, o.w ∈ W6 := fun o ho => ok.osub.subset (List.mem_map_of_mem ho)
      obtain ⟨os', eo, ew, ook⟩ := ops_of ok.sub ok.ops w6
      have hv3 : DKs H3 vs (ks.map kD) := DKs.keeps nw_some _ _ hv
      have hw3 : DKs H3 ws (os'.map opD) := by
        rw [← eo]
        exact DKs.keeps nw_some _ _ hw
      obtain ⟨ps, rfl, hps⟩ := ks_paired hv3
      obtain ⟨as, rfl, has⟩ := items_at hw3
      have ol : os'.length ≤ 6 := by
        have z := os_len ok
        have z2 : (os'.map (·.w)).length = (os.map (·.w)).length := by rw [ew]
        rw [List.length_map, List.length_map] at z2
        omega
      have kA : KindsAt K H3 p1 ps ks := ⟨e1.n, paired_mono (fun _ _ => SqT.of) hps⟩
      have oA : OpnsAt K H3 p2 as os' := ⟨SqT.of e2, paired_mono (fun _ _ h => h.opn) has⟩
      have oOk : OsOk ks os' := ⟨ook, by rw [ew]; exact asc_of (w6_lt.sublist ok.osub), by omega⟩
      have ond : (os'.map (·.w)).Nodup := by
        rw [ew]
        exact ok.osub.nodup w6_nodup
      refine ⟨_, rfl, _, rfl, fun x dx nx ndx ne => ?_⟩
      have s1 : Same H3 (upd (upd H3 dx (.own x)) x (.ins C dx [])) := fun b o e => (upd_ne (ne_of_none e nx)).trans ((upd_ne (ne_of_none e ndx)).trans e)
      refine ⟨x, dx, p1, p2, ps, as, ks, os', rfl, upd_same, kA.same s1, ks_ok ok, oA.same s1, oOk, fun H4 keep hx => ⟨rfl, ?_⟩⟩
      have s4 : Same H3 H4 := fun b o e => keep b o (ne_of_none e nx) (s1 _ _ e)
      have D4 : DeckAt H4 dk dl t1 := by
        obtain ⟨⟨m1, x1, y1, z1⟩, ⟨cs, x2, y2⟩⟩ := D3
        exact ⟨⟨m1, s4 _ _ x1, y1, z1⟩, ⟨cs, s4 _ _ x2, y2⟩⟩
      have M4 : MakesAt H4 p1 (ps.map V.ref) ks := by
        obtain ⟨oz, ez, dz⟩ := e1
        exact ⟨⟨oz, s4 _ _ ez, dz⟩, DKs.keeps s4 _ _ hv3, ok.sub, ok.num⟩
      have has4 : Paired (ItemAt H4) as os' := paired_mono (fun _ _ => ItemAt.mono fun _ _ e => s4 _ _ e) has
      have e24 := s4 _ _ e2
      have asl := has.length
      have xk : ∀ {H' : Hp}, Keep dk dl H4 H' → H' x = some (.ins C dx (fsB p1 p2)) := fun k' => by
        obtain ⟨⟨_, h1, _⟩, ⟨_, h2, _⟩⟩ := D4
        exact k' _ _ (ne_of hx h1 (by intro z; cases z)) (ne_of hx h2 (by intro z; cases z)) hx
      refine ⟨_, rfl, p2, rfl, ⟨_, SqT.of e24⟩, ?_⟩
      refine for_tup (K := K) (a := p2) (xs := as.map V.ref) (fun i σ H' => ∃ (t' : Int) (o6 o7 : Option V), σ = [some (.ref a), some (.ref dk), some (.int (0 + (n : Int))), some (.ref p1), some (.ref p2), some (.ref x), o6, o7, o8, o9] ∧ DeckAt H' dk dl t' ∧ t1 ≤ t' ∧ t' ≤ t1 + (i : Int) * 600 ∧ Keep dk dl H4 H')
        ⟨t1, o6, o7, rfl, D4, by omega, by omega, Keep.refl⟩ (fun i σ H' _ ⟨_, _, _, _, _, _, _, k'⟩ => SqT.of (k'.tup D4 e24)) ?_ ?_
      · rintro i y σ H5 hi ⟨t', o6, o7, rfl, D5, te, tf, K5⟩
        rw [List.getElem?_map] at hi
        obtain ⟨z, hz, rfl⟩ := Option.map_eq_some_iff.mp hi
        obtain ⟨o, ho, hI⟩ := paired_at has4 hz
        have il : i < os'.length := (List.getElem?_eq_some_iff.mp ho).1
        refine ⟨_, rfl, by decide, by decide, ?_⟩
        refine for_range (lo := 0) (n := 3) (fun j σ H' => ∃ (t'' : Int) (o7 : Option V), σ = [some (.ref a), some (.ref dk), some (.int (0 + (n : Int))), some (.ref p1), some (.ref p2), some (.ref x), some (.ref z), o7, o8, o9] ∧ DeckAt H' dk dl t'' ∧ t' ≤ t'' ∧ t'' ≤ t' + (j : Int) * 200 ∧ Keep dk dl H4 H')
          ⟨t', o7, rfl, D5, by omega, by omega, K5⟩ ?_ ?_
        · rintro j σ H6 hj ⟨t'', o7, rfl, D6, tg, th, K6⟩
          refine ⟨_, rfl, _, rfl, _, rfl, _, rfl, dk, dl, x, dx, p1, p2, z, t'', _, ks, as, os', o, i, rfl, D6, M4.keep D4 K6, xk K6, K6.tup D4 e24, paired_mono (fun _ _ => ItemAt.mono fun _ _ e => K6.tup D4 e) has4, ho, hz, ond, ook, by omega, by omega, by omega, fun t3 H7 D7 ti tj K7 => ?_⟩
          exact ⟨_, rfl, ite2 (fun z => absurd z (by decide)) fun _ => ⟨t3, _, rfl, D7, by omega, by rw [Int.natCast_succ]; omega, K6.trans K7⟩⟩
        · rintro σ H6 ⟨t'', o7, rfl, D6, tg, th, K6⟩
          exact ⟨t'', _, o7, rfl, D6, by omega, by rw [Int.natCast_succ]; omega, K6⟩
      · rintro σ H5 ⟨t', o6, o7, rfl, D5, te, tf, K5⟩
        rw [List.length_map] at tf
        exact ⟨t', _, _, _, _, o6, o7, o8, o9, rfl, D5, by omega, by rw [Int.natCast_succ]; omega⟩
    · rintro σ H2 ⟨t, o2, o3, o4, o5, o6, o7, o8, o9, rfl, D2, ta, tb⟩
      have l1 : 1 ≤ sizeLine := by rw [sizeLine_eq]; decide
      have l2 : 2 ≤ sizeLine := by rw [sizeLine_eq]; decide
      have l3 : 3 ≤ sizeLine := by rw [sizeLine_eq]; decide
      have l6 : 6 ≤ sizeLine := by rw [sizeLine_eq]; decide
      refine ⟨rfl, fun x dx H3 _ hx => ?_⟩
      -- the first two
      refine ⟨_, rfl, x, dx, _, rfl, hx, rfl, l2, fun q1 h1 => ⟨l3, fun q2 h2 => ?_⟩⟩
      have a1 := same_new (o := .tup [.str (PySem.Str.ofString "seal"), .str (PySem.Str.ofString "K"), .ref q1]) (same_new (o := .tup [.str (PySem.Str.ofString "half"), .str (PySem.Str.ofString "S")]) (same_rfl (H := H3)) h1) h2
      refine ask (E := E0) S 5 so5 rfl rfl n5 (by decide) (a1 _ _ hx) ⟨_, upd_same, .cons (.str _) (.cons (.tup ((upd_ne (ne_of_none upd_same h2)).trans upd_same) (.cons (.str _) (.cons (.str _) .nil))) .nil)⟩ (parts2 leafOk tupOk) fun v1 H4 s4 hv1 => ?_
      have b1 := same_tr a1 s4
      refine ⟨_, rfl, x, dx, _, rfl, b1 _ _ hx, rfl, l3, fun q3 h3 => ?_⟩
      have a2 := same_new (o := .tup [.str (PySem.Str.ofString "seal"), .str (PySem.Str.ofString "K"), .str (PySem.Str.ofString "S")]) (same_rfl (H := H4)) h3
      refine ask (E := E0) S 5 so5 rfl rfl n5 (by decide) ((same_tr b1 a2) _ _ hx) ⟨_, upd_same, .cons (.str _) (.cons (.str _) .nil)⟩ (parts2 leafOk leafOk) fun v2 H5 s5 hv2 => ⟨l2, fun p1 e1 => ?_⟩
      have k2 := same_tr a2 s5
      have t1 := same_new (o := .lst [v1, v2]) (same_rfl (H := H5)) e1
      have b2 := same_tr b1 (same_tr k2 t1)
      have w1 := DK.keeps (same_tr k2 t1) _ _ hv1
      have w2 := DK.keeps t1 _ _ hv2
      have lp1 : upd H5 p1 (.lst [v1, v2]) p1 = some (.lst [v1, v2]) := upd_same
      show Ends.nx _ _ (upd H5 p1 (.lst [v1, v2]))
      generalize upd H5 p1 (.lst [v1, v2]) = G1 at b2 w1 w2 lp1
      clear a1 s4 b1 a2 s5 k2 t1 hv1 hv2 e1 h1 h2 h3
      -- the third and the fourth
      refine ⟨_, rfl, _, rfl, x, dx, _, rfl, b2 _ _ hx, rfl, l2, fun q4 h4 => ⟨l3, fun q5 h5 => ?_⟩⟩
      have a3 := same_new (o := .tup [.str (PySem.Str.ofString "seal"), .str (PySem.Str.ofString "K"), .ref q4]) (same_new (o := .tup [.str (PySem.Str.ofString "mark"), .str (PySem.Str.ofString "S")]) (same_rfl (H := G1)) h4) h5
      refine ask (E := E0) S 5 so5 rfl rfl n5 (by decide) ((same_tr b2 a3) _ _ hx) ⟨_, upd_same, .cons (.str _) (.cons (.tup ((upd_ne (ne_of_none upd_same h5)).trans upd_same) (.cons (.str _) (.cons (.str _) .nil))) .nil)⟩ (parts2 leafOk tupOk) fun v3 H6 s6 hv3 => ?_
      have g1 := same_tr a3 s6
      have b3 := same_tr b2 g1
      refine ⟨_, rfl, x, dx, _, rfl, b3 _ _ hx, rfl, l3, fun q6 h6 => ?_⟩
      have a4 := same_new (o := .tup [.str (PySem.Str.ofString "sign"), .str (PySem.Str.ofString "a"), .str (PySem.Str.ofString "S")]) (same_rfl (H := H6)) h6
      refine ask (E := E0) S 4 so4 rfl rfl n4 (by decide) ((same_tr b3 a4) _ _ hx) ⟨_, upd_same, .cons (.str _) (.cons (.str _) .nil)⟩ (parts2 leafOk leafOk) fun v4 H7 s7 hv4 => ⟨l2, fun p2 e2 => ?_⟩
      have k4 := same_tr a4 s7
      have t2 := same_new (o := .lst [v3, v4]) (same_rfl (H := H7)) e2
      have m12 := same_tr g1 (same_tr k4 t2)
      refine ⟨p1, p2, _, _, rfl, rfl, m12 _ _ lp1, upd_same, (by show 4 ≤ sizeLine; rw [sizeLine_eq]; decide), fun p3 e3 => ?_⟩
      have t3 := same_new (o := .lst ([v1, v2] ++ [v3, v4])) (same_rfl (H := upd H7 p2 (.lst [v3, v4]))) e3
      have w1' := DK.keeps (same_tr m12 t3) _ _ w1
      have w2' := DK.keeps (same_tr m12 t3) _ _ w2
      have w3 := DK.keeps (same_tr k4 (same_tr t2 t3)) _ _ hv3
      have w4 := DK.keeps (same_tr t2 t3) _ _ hv4
      have b4 := same_tr b2 (same_tr m12 t3)
      have lp3 : upd (upd H7 p2 (.lst [v3, v4])) p3 (.lst ([v1, v2] ++ [v3, v4])) p3 = some (.lst [v1, v2, v3, v4]) := upd_same
      show Ends.nx _ _ (upd (upd H7 p2 (.lst [v3, v4])) p3 (.lst ([v1, v2] ++ [v3, v4])))
      generalize upd (upd H7 p2 (.lst [v3, v4])) p3 (.lst ([v1, v2] ++ [v3, v4])) = G2 at w1' w2' w3 w4 b4 lp3
      clear a3 s6 g1 b3 a4 s7 k4 t2 m12 t3 e2 e3 h4 h5 h6 hv3 hv4 w1 w2 lp1
      -- the last two
      refine ⟨_, rfl, _, rfl, x, dx, _, rfl, b4 _ _ hx, rfl, l3, fun q7 h7 => ⟨l3, fun q8 h8 => ?_⟩⟩
      have a5 := same_new (o := .tup [.str (PySem.Str.ofString "lock"), .str (PySem.Str.ofString "a"), .ref q7]) (same_new (o := .tup [.str (PySem.Str.ofString "pair"), .str (PySem.Str.ofString "b"), .str (PySem.Str.ofString "K")]) (same_rfl (H := G2)) h7) h8
      refine ask (E := E0) S 1 so1 rfl rfl n1 (by decide) ((same_tr b4 a5) _ _ hx) ⟨_, upd_same, .cons (.str _) (.cons (.tup ((upd_ne (ne_of_none upd_same h8)).trans upd_same) (.cons (.str _) (.cons (.str _) (.cons (.str _) .nil)))) .nil)⟩ (parts2 leafOk tupOk) fun v5 H8 s8 hv5 => ?_
      have g5 := same_tr a5 s8
      have b5 := same_tr b4 g5
      refine ⟨_, rfl, x, dx, _, rfl, b5 _ _ hx, rfl, l3, fun q9 h9 => ?_⟩
      have a6 := same_new (o := .tup [.str (PySem.Str.ofString "pair"), .str (PySem.Str.ofString "a"), .str (PySem.Str.ofString "b")]) (same_rfl (H := H8)) h9
      refine ask (E := E0) S 0 so0 rfl rfl (fun _ z => (List.not_mem_nil z).elim) (by decide) ((same_tr b5 a6) _ _ hx) ⟨_, upd_same, .cons (.str _) (.cons (.str _) .nil)⟩ (parts2 leafOk leafOk) fun v6 H9 s9 hv6 => ⟨l2, fun p4 e4 => ?_⟩
      have k6 := same_tr a6 s9
      have t4 := same_new (o := .lst [v5, v6]) (same_rfl (H := H9)) e4
      have m56 := same_tr g5 (same_tr k6 t4)
      refine ⟨p3, p4, _, _, rfl, rfl, m56 _ _ lp3, upd_same, (by show 6 ≤ sizeLine; exact l6), fun p5 e5 => ?_⟩
      have t5 := same_new (o := .lst ([v1, v2, v3, v4] ++ [v5, v6])) (same_rfl (H := upd H9 p4 (.lst [v5, v6]))) e5
      have told : DKs (upd (upd H9 p4 (.lst [v5, v6])) p5 (.lst ([v1, v2, v3, v4] ++ [v5, v6]))) [v1, v2, v3, v4, v5, v6] gotD :=
        .cons (DK.keeps (same_tr m56 t5) _ _ w1') (.cons (DK.keeps (same_tr m56 t5) _ _ w2') (.cons (DK.keeps (same_tr m56 t5) _ _ w3) (.cons (DK.keeps (same_tr m56 t5) _ _ w4)
          (.cons (DK.keeps (same_tr k6 (same_tr t4 t5)) _ _ hv5) (.cons (DK.keeps (same_tr t4 t5) _ _ hv6) .nil)))))
      have lp5 : upd (upd H9 p4 (.lst [v5, v6])) p5 (.lst ([v1, v2, v3, v4] ++ [v5, v6])) p5 = some (.lst [v1, v2, v3, v4, v5, v6]) := upd_same
      show Ends.nx _ _ (upd (upd H9 p4 (.lst [v5, v6])) p5 (.lst ([v1, v2, v3, v4] ++ [v5, v6])))
      generalize upd (upd H9 p4 (.lst [v5, v6])) p5 (.lst ([v1, v2, v3, v4] ++ [v5, v6])) = G3 at told lp5
      refine ⟨_, rfl, p5, _, gotD, rfl, lp5, dzs_app told, got_show, ?_⟩
      refine ⟨l1, fun z1 y1 => ⟨l2, fun z2 y2 => ⟨l1, fun z3 y3 => ⟨l3, fun z4 y4 => ⟨l1, fun z5 y5 => ⟨Nat.zero_le _, fun z6 y6 => ⟨l6, fun z7 y7 => ?_⟩⟩⟩⟩⟩⟩⟩
      have u1 : upd G3 z1 (.tup [.str (PySem.Str.ofString "S")]) z1 = some (.tup [.str (PySem.Str.ofString "S")]) := upd_same
      have x2 := (upd_ne (o := .tup [.str (PySem.Str.ofString "half"), .str (PySem.Str.ofString "S")]) (ne_of_none u1 y2)).trans u1
      have x3 := (upd_ne (o := .tup [.ref z2]) (ne_of_none x2 y3)).trans x2
      have x4 := (upd_ne (o := .tup [.str (PySem.Str.ofString "pair"), .str (PySem.Str.ofString "b"), .str (PySem.Str.ofString "K")]) (ne_of_none x3 y4)).trans x3
      have x5 := (upd_ne (o := .tup [.ref z4]) (ne_of_none x4 y5)).trans x4
      have x6 := (upd_ne (o := .tup []) (ne_of_none x5 y6)).trans x5
      have x7 := (upd_ne (o := .lst [.ref z1, .non, .non, .ref z3, .ref z5, .ref z6]) (ne_of_none x6 y7)).trans x6
      have m2 : upd (upd G3 z1 (.tup [.str (PySem.Str.ofString "S")])) z2 (.tup [.str (PySem.Str.ofString "half"), .str (PySem.Str.ofString "S")]) z2 = some (.tup [.str (PySem.Str.ofString "half"), .str (PySem.Str.ofString "S")]) := upd_same
      have m3 := (upd_ne (o := .tup [.ref z2]) (ne_of_none m2 y3)).trans m2
      have m4 := (upd_ne (o := .tup [.str (PySem.Str.ofString "pair"), .str (PySem.Str.ofString "b"), .str (PySem.Str.ofString "K")]) (ne_of_none m3 y4)).trans m3
      have m5 := (upd_ne (o := .tup [.ref z4]) (ne_of_none m4 y5)).trans m4
      have m6 := (upd_ne (o := .tup []) (ne_of_none m5 y6)).trans m5
      have m7 := (upd_ne (o := .lst [.ref z1, .non, .non, .ref z3, .ref z5, .ref z6]) (ne_of_none m6 y7)).trans m6
      have r3 : upd (upd (upd G3 z1 (.tup [.str (PySem.Str.ofString "S")])) z2 (.tup [.str (PySem.Str.ofString "half"), .str (PySem.Str.ofString "S")])) z3 (.tup [.ref z2]) z3 = some (.tup [.ref z2]) := upd_same
      have r4 := (upd_ne (o := .tup [.str (PySem.Str.ofString "pair"), .str (PySem.Str.ofString "b"), .str (PySem.Str.ofString "K")]) (ne_of_none r3 y4)).trans r3
      have r5 := (upd_ne (o := .tup [.ref z4]) (ne_of_none r4 y5)).trans r4
      have r6 := (upd_ne (o := .tup []) (ne_of_none r5 y6)).trans r5
      have r7 := (upd_ne (o := .lst [.ref z1, .non, .non, .ref z3, .ref z5, .ref z6]) (ne_of_none r6 y7)).trans r6
      have f4 : upd (upd (upd (upd G3 z1 (.tup [.str (PySem.Str.ofString "S")])) z2 (.tup [.str (PySem.Str.ofString "half"), .str (PySem.Str.ofString "S")])) z3 (.tup [.ref z2])) z4 (.tup [.str (PySem.Str.ofString "pair"), .str (PySem.Str.ofString "b"), .str (PySem.Str.ofString "K")]) z4 = some (.tup [.str (PySem.Str.ofString "pair"), .str (PySem.Str.ofString "b"), .str (PySem.Str.ofString "K")]) := upd_same
      have f5 := (upd_ne (o := .tup [.ref z4]) (ne_of_none f4 y5)).trans f4
      have f6 := (upd_ne (o := .tup []) (ne_of_none f5 y6)).trans f5
      have f7 := (upd_ne (o := .lst [.ref z1, .non, .non, .ref z3, .ref z5, .ref z6]) (ne_of_none f6 y7)).trans f6
      have g5' : upd (upd (upd (upd (upd G3 z1 (.tup [.str (PySem.Str.ofString "S")])) z2 (.tup [.str (PySem.Str.ofString "half"), .str (PySem.Str.ofString "S")])) z3 (.tup [.ref z2])) z4 (.tup [.str (PySem.Str.ofString "pair"), .str (PySem.Str.ofString "b"), .str (PySem.Str.ofString "K")])) z5 (.tup [.ref z4]) z5 = some (.tup [.ref z4]) := upd_same
      have g6 := (upd_ne (o := .tup []) (ne_of_none g5' y6)).trans g5'
      have g7 := (upd_ne (o := .lst [.ref z1, .non, .non, .ref z3, .ref z5, .ref z6]) (ne_of_none g6 y7)).trans g6
      have j6 : upd (upd (upd (upd (upd (upd G3 z1 (.tup [.str (PySem.Str.ofString "S")])) z2 (.tup [.str (PySem.Str.ofString "half"), .str (PySem.Str.ofString "S")])) z3 (.tup [.ref z2])) z4 (.tup [.str (PySem.Str.ofString "pair"), .str (PySem.Str.ofString "b"), .str (PySem.Str.ofString "K")])) z5 (.tup [.ref z4])) z6 (.tup []) z6 = some (.tup []) := upd_same
      have j7 := (upd_ne (o := .lst [.ref z1, .non, .non, .ref z3, .ref z5, .ref z6]) (ne_of_none j6 y7)).trans j6
      refine ⟨z7, [.ref z1, .non, .non, .ref z3, .ref z5, .ref z6], expD, rfl, upd_same, dzs_app (.cons (.tup x7 (.cons (.str _) .nil)) (.cons .non (.cons .non (.cons (.tup r7 (.cons (.tup m7 (.cons (.str _) (.cons (.str _) .nil))) .nil)) (.cons (.tup g7 (.cons (.tup f7 (.cons (.str _) (.cons (.str _) (.cons (.str _) .nil)))) .nil)) (.cons (.tup j7 .nil) .nil)))))), exp_show, rfl, ?_⟩
      rw [same_txt, decide_eq_true rfl]
      exact k _
end
end K05

set_option Elab.async false
set_option linter.all false
set_option maxRecDepth 100000
set_option maxHeartbeats 4000000
/-! What the top has written, and the end. -/
namespace K05
open PySem PySem.Spec PyProof.Rows L2 Mine
theorem sqK {K : PySem.W.Frag} {H : Hp} {a : Addr} {its : Array Value} {n : Nat} {sl : Array (Option Value)} {xs : List V} (l : K.lookup a = some ⟨.type "tuple", none, .seq its n, sl⟩) (v : Vals xs its.toList) (hz : its.size ≤ 16777216) : SqT K H a xs := .inr ⟨_, its, n, l, rfl, rfl, (by rw [sizeLine_eq]; exact hz), v⟩
theorem rI {i : Int} {t : PySem.Tok} : RelV (.int i) (.int i t) := ⟨t, rfl⟩
theorem rS {x : Str} {t : PySem.Tok} : RelV (.str x) (.str x t) := ⟨t, rfl⟩
section
variable {P : Program} {w : World} {K : PySem.W.Frag} {mg : Str → Option Value}
theorem std_mk {kk oo ka0 ka1 ka2 ka3 ka4 ka5 oa0 oa1 oa2 oa3 oa4 oa5 ob0 ob1 ob2 ob3 ob4 ob5 oc1 oc4 oc5 : Addr} {t_ka0_0 t_ka0_1 t_ka1_0 t_ka1_1 t_ka2_0 t_ka2_1 t_ka3_0 t_ka3_1 t_ka4_0 t_ka4_1 t_ka5_0 t_ka5_1 t_oa0_0 t_oa0_1 t_oa0_2 t_oa1_0 t_oa1_1 t_oa1_2 t_oc1_0 t_oc1_1 t_oa2_0 t_oa2_1 t_oa2_2 t_oa3_0 t_oa3_1 t_oa3_2 t_oa4_0 t_oa4_1 t_oa4_2 t_oc4_0 t_oc4_1 t_oc4_2 t_oa5_0 t_oa5_1 t_oa5_2 t_oc5_0 t_oc5_1 t_oc5_2 : PySem.Tok} {n_kk n_ka0 n_ka1 n_ka2 n_ka3 n_ka4 n_ka5 n_oo n_oa0 n_ob0 n_oa1 n_ob1 n_oc1 n_oa2 n_ob2 n_oa3 n_ob3 n_oa4 n_ob4 n_oc4 n_oa5 n_ob5 n_oc5 : Nat} {s_kk s_ka0 s_ka1 s_ka2 s_ka3 s_ka4 s_ka5 s_oo s_oa0 s_ob0 s_oa1 s_ob1 s_oc1 s_oa2 s_ob2 s_oa3 s_ob3 s_oa4 s_ob4 s_oc4 s_oa5 s_ob5 s_oc5 : Array (Option Value)}
    (l_kk : K.lookup kk = some ⟨.type "tuple", none, .seq #[.ref ka0, .ref ka1, .ref ka2, .ref ka3, .ref ka4, .ref ka5] n_kk, s_kk⟩)
    (l_ka0 : K.lookup ka0 = some ⟨.type "tuple", none, .seq #[.str (PySem.Str.ofString "half") t_ka0_0, .int 1 t_ka0_1] n_ka0, s_ka0⟩)
    (l_ka1 : K.lookup ka1 = some ⟨.type "tuple", none, .seq #[.str (PySem.Str.ofString "lock") t_ka1_0, .int 2 t_ka1_1] n_ka1, s_ka1⟩)
    (l_ka2 : K.lookup ka2 = some ⟨.type "tuple", none, .seq #[.str (PySem.Str.ofString "mark") t_ka2_0, .int 1 t_ka2_1] n_ka2, s_ka2⟩)
    (l_ka3 : K.lookup ka3 = some ⟨.type "tuple", none, .seq #[.str (PySem.Str.ofString "pair") t_ka3_0, .int 2 t_ka3_1] n_ka3, s_ka3⟩)
    (l_ka4 : K.lookup ka4 = some ⟨.type "tuple", none, .seq #[.str (PySem.Str.ofString "seal") t_ka4_0, .int 2 t_ka4_1] n_ka4, s_ka4⟩)
    (l_ka5 : K.lookup ka5 = some ⟨.type "tuple", none, .seq #[.str (PySem.Str.ofString "sign") t_ka5_0, .int 2 t_ka5_1] n_ka5, s_ka5⟩)
    (l_oo : K.lookup oo = some ⟨.type "tuple", none, .seq #[.ref oa0, .ref oa1, .ref oa2, .ref oa3, .ref oa4, .ref oa5] n_oo, s_oo⟩)
    (l_oa0 : K.lookup oa0 = some ⟨.type "tuple", none, .seq #[.str (PySem.Str.ofString "first") t_oa0_0, .str (PySem.Str.ofString "pair") t_oa0_1, .int 0 t_oa0_2, .ref ob0] n_oa0, s_oa0⟩)
    (l_ob0 : K.lookup ob0 = some ⟨.type "tuple", none, .seq #[] n_ob0, s_ob0⟩)
    (l_oa1 : K.lookup oa1 = some ⟨.type "tuple", none, .seq #[.str (PySem.Str.ofString "open") t_oa1_0, .str (PySem.Str.ofString "lock") t_oa1_1, .int 0 t_oa1_2, .ref ob1] n_oa1, s_oa1⟩)
    (l_ob1 : K.lookup ob1 = some ⟨.type "tuple", none, .seq #[.ref oc1] n_ob1, s_ob1⟩)
    (l_oc1 : K.lookup oc1 = some ⟨.type "tuple", none, .seq #[.str (PySem.Str.ofString "part") t_oc1_0, .int 1 t_oc1_1] n_oc1, s_oc1⟩)
    (l_oa2 : K.lookup oa2 = some ⟨.type "tuple", none, .seq #[.str (PySem.Str.ofString "second") t_oa2_0, .str (PySem.Str.ofString "pair") t_oa2_1, .int 1 t_oa2_2, .ref ob2] n_oa2, s_oa2⟩)
    (l_ob2 : K.lookup ob2 = some ⟨.type "tuple", none, .seq #[] n_ob2, s_ob2⟩)
    (l_oa3 : K.lookup oa3 = some ⟨.type "tuple", none, .seq #[.str (PySem.Str.ofString "shown") t_oa3_0, .str (PySem.Str.ofString "sign") t_oa3_1, .int 0 t_oa3_2, .ref ob3] n_oa3, s_oa3⟩)
    (l_ob3 : K.lookup ob3 = some ⟨.type "tuple", none, .seq #[] n_ob3, s_ob3⟩)
    (l_oa4 : K.lookup oa4 = some ⟨.type "tuple", none, .seq #[.str (PySem.Str.ofString "signed") t_oa4_0, .str (PySem.Str.ofString "sign") t_oa4_1, .int 0 t_oa4_2, .ref ob4] n_oa4, s_oa4⟩)
    (l_ob4 : K.lookup ob4 = some ⟨.type "tuple", none, .seq #[.ref oc4] n_ob4, s_ob4⟩)
    (l_oc4 : K.lookup oc4 = some ⟨.type "tuple", none, .seq #[.str (PySem.Str.ofString "around") t_oc4_0, .str (PySem.Str.ofString "half") t_oc4_1, .int 1 t_oc4_2] n_oc4, s_oc4⟩)
    (l_oa5 : K.lookup oa5 = some ⟨.type "tuple", none, .seq #[.str (PySem.Str.ofString "unseal") t_oa5_0, .str (PySem.Str.ofString "seal") t_oa5_1, .int 0 t_oa5_2, .ref ob5] n_oa5, s_oa5⟩)
    (l_ob5 : K.lookup ob5 = some ⟨.type "tuple", none, .seq #[.ref oc5] n_ob5, s_ob5⟩)
    (l_oc5 : K.lookup oc5 = some ⟨.type "tuple", none, .seq #[.str (PySem.Str.ofString "inside") t_oc5_0, .int 1 t_oc5_1, .str (PySem.Str.ofString "half") t_oc5_2] n_oc5, s_oc5⟩) :
    Std K kk oo [ka0, ka1, ka2, ka3, ka4, ka5] [oa0, oa1, oa2, oa3, oa4, oa5] where
  ks := fun H => ⟨.inr ⟨(sqK l_kk (.cons rfl (.cons rfl (.cons rfl (.cons rfl (.cons rfl (.cons rfl .nil)))))) (by show 6 ≤ 16777216; decide)), _, l_kk, rfl⟩, (.cons (sqK l_ka0 (.cons rS (.cons rI .nil)) (by show 2 ≤ 16777216; decide)) (.cons (sqK l_ka1 (.cons rS (.cons rI .nil)) (by show 2 ≤ 16777216; decide)) (.cons (sqK l_ka2 (.cons rS (.cons rI .nil)) (by show 2 ≤ 16777216; decide)) (.cons (sqK l_ka3 (.cons rS (.cons rI .nil)) (by show 2 ≤ 16777216; decide)) (.cons (sqK l_ka4 (.cons rS (.cons rI .nil)) (by show 2 ≤ 16777216; decide)) (.cons (sqK l_ka5 (.cons rS (.cons rI .nil)) (by show 2 ≤ 16777216; decide)) .nil))))))⟩
  os := fun H => ⟨(sqK l_oo (.cons rfl (.cons rfl (.cons rfl (.cons rfl (.cons rfl (.cons rfl .nil)))))) (by show 6 ≤ 16777216; decide)), (.cons ⟨ob0, [], (sqK l_oa0 (.cons rS (.cons rS (.cons rI (.cons rfl .nil)))) (by show 4 ≤ 16777216; decide)), (sqK l_ob0 .nil (by show 0 ≤ 16777216; decide)), .nil⟩ (.cons ⟨ob1, [oc1], (sqK l_oa1 (.cons rS (.cons rS (.cons rI (.cons rfl .nil)))) (by show 4 ≤ 16777216; decide)), (sqK l_ob1 (.cons rfl .nil) (by show 1 ≤ 16777216; decide)), (.cons (sqK l_oc1 (.cons rS (.cons rI .nil)) (by show 2 ≤ 16777216; decide)) .nil)⟩ (.cons ⟨ob2, [], (sqK l_oa2 (.cons rS (.cons rS (.cons rI (.cons rfl .nil)))) (by show 4 ≤ 16777216; decide)), (sqK l_ob2 .nil (by show 0 ≤ 16777216; decide)), .nil⟩ (.cons ⟨ob3, [], (sqK l_oa3 (.cons rS (.cons rS (.cons rI (.cons rfl .nil)))) (by show 4 ≤ 16777216; decide)), (sqK l_ob3 .nil (by show 0 ≤ 16777216; decide)), .nil⟩ (.cons ⟨ob4, [oc4], (sqK l_oa4 (.cons rS (.cons rS (.cons rI (.cons rfl .nil)))) (by show 4 ≤ 16777216; decide)), (sqK l_ob4 (.cons rfl .nil) (by show 1 ≤ 16777216; decide)), (.cons (sqK l_oc4 (.cons rS (.cons rS (.cons rI .nil))) (by show 3 ≤ 16777216; decide)) .nil)⟩ (.cons ⟨ob5, [oc5], (sqK l_oa5 (.cons rS (.cons rS (.cons rI (.cons rfl .nil)))) (by show 4 ≤ 16777216; decide)), (sqK l_ob5 (.cons rfl .nil) (by show 1 ≤ 16777216; decide)), (.cons (sqK l_oc5 (.cons rS (.cons rI (.cons rS .nil))) (by show 3 ≤ 16777216; decide)) .nil)⟩ .nil))))))⟩
theorem all_mk {h : Heap} {fa : Addr} {ps0 as0 : List Addr} (X : K.In h) (G : h.Ns mainGlobals mg) (hfa : mg "law" = some (.ref fa))
    {f_deck f_draw f_pick f_need f_kit f_thing f_wanted f_due f_fit f_right f_law f_word f_int f_asc f_kinds f_kindq f_opens f_openq f_needq f_one f_nd f_std f_init f_needed C kk oo : Addr}
    {od_deck an_deck od_draw an_draw od_pick an_pick od_need an_need od_kit an_kit od_thing an_thing od_wanted an_wanted od_due an_due od_fit an_fit od_right an_right od_law an_law od_word an_word od_int an_int od_asc an_asc od_kinds an_kinds od_kindq an_kindq od_opens an_opens od_openq an_openq od_needq an_needq od_one an_one od_nd an_nd od_std an_std od_init an_init od_needed an_needed : Option Addr}
    {sl_deck sl_draw sl_pick sl_need sl_kit sl_thing sl_wanted sl_due sl_fit sl_right sl_law sl_word sl_int sl_asc sl_kinds sl_kindq sl_opens sl_openq sl_needq sl_one sl_nd sl_std sl_init sl_needed : Array (Option Value)}
    {oc_deck kV_deck dc_deck pm_deck cd_deck ct_deck oc_draw kV_draw dc_draw pm_draw cd_draw ct_draw oc_pick kV_pick dc_pick pm_pick cd_pick ct_pick oc_need kV_need dc_need pm_need cd_need ct_need oc_kit kV_kit dc_kit pm_kit cd_kit ct_kit oc_thing kV_thing dc_thing pm_thing cd_thing ct_thing oc_wanted kV_wanted dc_wanted pm_wanted cd_wanted ct_wanted oc_due kV_due dc_due pm_due cd_due ct_due oc_fit kV_fit dc_fit pm_fit cd_fit ct_fit oc_right kV_right dc_right pm_right cd_right ct_right oc_law kV_law dc_law pm_law cd_law ct_law oc_word kV_word dc_word pm_word cd_word ct_word oc_int kV_int dc_int pm_int cd_int ct_int oc_asc kV_asc dc_asc pm_asc cd_asc ct_asc oc_kinds kV_kinds dc_kinds pm_kinds cd_kinds ct_kinds oc_kindq kV_kindq dc_kindq pm_kindq cd_kindq ct_kindq oc_opens kV_opens dc_opens pm_opens cd_opens ct_opens oc_openq kV_openq dc_openq pm_openq cd_openq ct_openq oc_needq kV_needq dc_needq pm_needq cd_needq ct_needq oc_one kV_one dc_one pm_one cd_one ct_one oc_nd kV_nd dc_nd pm_nd cd_nd ct_nd oc_std kV_std dc_std pm_std cd_std ct_std oc_init kV_init dc_init pm_init cd_init ct_init oc_needed kV_needed dc_needed pm_needed cd_needed ct_needed : Value}
    {t1 t2 t3 t4 : PySem.Tok}
    (a_deck : PySem.W.nsIn K mainGlobals "_law_deck" = some (some (.ref f_deck)))
    (l_deck : K.lookup f_deck = some ⟨oc_deck, od_deck, .func (PySem.W.fnOf "_law_deck" "_law_deck" (defArgs sDeck) (defBody sDeck) (defScope sDeck) .none kV_deck dc_deck pm_deck an_deck cd_deck ct_deck), sl_deck⟩)
    (c_deck : PySem.W.codeIn K cd_deck "_law_deck" = true)
    (k_deck : PySem.W.keepIn K (.ref f_deck) = true)
    (a_draw : PySem.W.nsIn K mainGlobals "_law_draw" = some (some (.ref f_draw)))
    (l_draw : K.lookup f_draw = some ⟨oc_draw, od_draw, .func (PySem.W.fnOf "_law_draw" "_law_draw" (defArgs sDraw) (defBody sDraw) (defScope sDraw) .none kV_draw dc_draw pm_draw an_draw cd_draw ct_draw), sl_draw⟩)
    (c_draw : PySem.W.codeIn K cd_draw "_law_draw" = true)
    (k_draw : PySem.W.keepIn K (.ref f_draw) = true)
    (a_pick : PySem.W.nsIn K mainGlobals "_law_pick" = some (some (.ref f_pick)))
    (l_pick : K.lookup f_pick = some ⟨oc_pick, od_pick, .func (PySem.W.fnOf "_law_pick" "_law_pick" (defArgs sPick) (defBody sPick) (defScope sPick) .none kV_pick dc_pick pm_pick an_pick cd_pick ct_pick), sl_pick⟩)
    (c_pick : PySem.W.codeIn K cd_pick "_law_pick" = true)
    (k_pick : PySem.W.keepIn K (.ref f_pick) = true)
    (a_need : PySem.W.nsIn K mainGlobals "_law_need" = some (some (.ref f_need)))
    (l_need : K.lookup f_need = some ⟨oc_need, od_need, .func (PySem.W.fnOf "_law_need" "_law_need" (defArgs sNeed) (defBody sNeed) (defScope sNeed) .none kV_need dc_need pm_need an_need cd_need ct_need), sl_need⟩)
    (c_need : PySem.W.codeIn K cd_need "_law_need" = true)
    (k_need : PySem.W.keepIn K (.ref f_need) = true)
    (a_kit : PySem.W.nsIn K mainGlobals "_law_kit" = some (some (.ref f_kit)))
    (l_kit : K.lookup f_kit = some ⟨oc_kit, od_kit, .func (PySem.W.fnOf "_law_kit" "_law_kit" (defArgs sKit) (defBody sKit) (defScope sKit) .none kV_kit dc_kit pm_kit an_kit cd_kit ct_kit), sl_kit⟩)
    (c_kit : PySem.W.codeIn K cd_kit "_law_kit" = true)
    (k_kit : PySem.W.keepIn K (.ref f_kit) = true)
    (a_thing : PySem.W.nsIn K mainGlobals "_law_thing" = some (some (.ref f_thing)))
    (l_thing : K.lookup f_thing = some ⟨oc_thing, od_thing, .func (PySem.W.fnOf "_law_thing" "_law_thing" (defArgs sThing) (defBody sThing) (defScope sThing) .none kV_thing dc_thing pm_thing an_thing cd_thing ct_thing), sl_thing⟩)
    (c_thing : PySem.W.codeIn K cd_thing "_law_thing" = true)
    (k_thing : PySem.W.keepIn K (.ref f_thing) = true)
    (a_wanted : PySem.W.nsIn K mainGlobals "_law_wanted" = some (some (.ref f_wanted)))
    (l_wanted : K.lookup f_wanted = some ⟨oc_wanted, od_wanted, .func (PySem.W.fnOf "_law_wanted" "_law_wanted" (defArgs sWanted) (defBody sWanted) (defScope sWanted) .none kV_wanted dc_wanted pm_wanted an_wanted cd_wanted ct_wanted), sl_wanted⟩)
    (c_wanted : PySem.W.codeIn K cd_wanted "_law_wanted" = true)
    (k_wanted : PySem.W.keepIn K (.ref f_wanted) = true)
    (a_due : PySem.W.nsIn K mainGlobals "_law_due" = some (some (.ref f_due)))
    (l_due : K.lookup f_due = some ⟨oc_due, od_due, .func (PySem.W.fnOf "_law_due" "_law_due" (defArgs sDue) (defBody sDue) (defScope sDue) .none kV_due dc_due pm_due an_due cd_due ct_due), sl_due⟩)
    (c_due : PySem.W.codeIn K cd_due "_law_due" = true)
    (k_due : PySem.W.keepIn K (.ref f_due) = true)
    (a_fit : PySem.W.nsIn K mainGlobals "_law_fit" = some (some (.ref f_fit)))
    (l_fit : K.lookup f_fit = some ⟨oc_fit, od_fit, .func (PySem.W.fnOf "_law_fit" "_law_fit" (defArgs sFit) (defBody sFit) (defScope sFit) .none kV_fit dc_fit pm_fit an_fit cd_fit ct_fit), sl_fit⟩)
    (c_fit : PySem.W.codeIn K cd_fit "_law_fit" = true)
    (k_fit : PySem.W.keepIn K (.ref f_fit) = true)
    (a_right : PySem.W.nsIn K mainGlobals "_law_right" = some (some (.ref f_right)))
    (l_right : K.lookup f_right = some ⟨oc_right, od_right, .func (PySem.W.fnOf "_law_right" "_law_right" (defArgs sRight) (defBody sRight) (defScope sRight) .none kV_right dc_right pm_right an_right cd_right ct_right), sl_right⟩)
    (c_right : PySem.W.codeIn K cd_right "_law_right" = true)
    (k_right : PySem.W.keepIn K (.ref f_right) = true)
    (a_law : PySem.W.nsIn K mainGlobals "law" = some (some (.ref f_law)))
    (l_law : K.lookup f_law = some ⟨oc_law, od_law, .func (PySem.W.fnOf "law" "law" (defArgs sLaw) (defBody sLaw) (defScope sLaw) .none kV_law dc_law pm_law an_law cd_law ct_law), sl_law⟩)
    (c_law : PySem.W.codeIn K cd_law "law" = true)
    (k_law : PySem.W.keepIn K (.ref f_law) = true)
    (a_word : PySem.W.nsIn K mainGlobals "is_word" = some (some (.ref f_word)))
    (l_word : K.lookup f_word = some ⟨oc_word, od_word, .func (PySem.W.fnOf "is_word" "is_word" (defArgs sWord) (defBody sWord) (defScope sWord) .none kV_word dc_word pm_word an_word cd_word ct_word), sl_word⟩)
    (c_word : PySem.W.codeIn K cd_word "is_word" = true)
    (k_word : PySem.W.keepIn K (.ref f_word) = true)
    (a_int : PySem.W.nsIn K mainGlobals "_is_integer" = some (some (.ref f_int)))
    (l_int : K.lookup f_int = some ⟨oc_int, od_int, .func (PySem.W.fnOf "_is_integer" "_is_integer" (defArgs sInt) (defBody sInt) (defScope sInt) .none kV_int dc_int pm_int an_int cd_int ct_int), sl_int⟩)
    (c_int : PySem.W.codeIn K cd_int "_is_integer" = true)
    (k_int : PySem.W.keepIn K (.ref f_int) = true)
    (a_asc : PySem.W.nsIn K mainGlobals "ascends" = some (some (.ref f_asc)))
    (l_asc : K.lookup f_asc = some ⟨oc_asc, od_asc, .func (PySem.W.fnOf "ascends" "ascends" (defArgs sAsc) (defBody sAsc) (defScope sAsc) .none kV_asc dc_asc pm_asc an_asc cd_asc ct_asc), sl_asc⟩)
    (c_asc : PySem.W.codeIn K cd_asc "ascends" = true)
    (k_asc : PySem.W.keepIn K (.ref f_asc) = true)
    (a_kinds : PySem.W.nsIn K mainGlobals "_are_kinds" = some (some (.ref f_kinds)))
    (l_kinds : K.lookup f_kinds = some ⟨oc_kinds, od_kinds, .func (PySem.W.fnOf "_are_kinds" "_are_kinds" (defArgs sKinds) (defBody sKinds) (defScope sKinds) .none kV_kinds dc_kinds pm_kinds an_kinds cd_kinds ct_kinds), sl_kinds⟩)
    (c_kinds : PySem.W.codeIn K cd_kinds "_are_kinds" = true)
    (k_kinds : PySem.W.keepIn K (.ref f_kinds) = true)
    (a_kindq : PySem.W.nsIn K mainGlobals "_is_kind" = some (some (.ref f_kindq)))
    (l_kindq : K.lookup f_kindq = some ⟨oc_kindq, od_kindq, .func (PySem.W.fnOf "_is_kind" "_is_kind" (defArgs sKindQ) (defBody sKindQ) (defScope sKindQ) .none kV_kindq dc_kindq pm_kindq an_kindq cd_kindq ct_kindq), sl_kindq⟩)
    (c_kindq : PySem.W.codeIn K cd_kindq "_is_kind" = true)
    (k_kindq : PySem.W.keepIn K (.ref f_kindq) = true)
    (a_opens : PySem.W.nsIn K mainGlobals "_are_openings" = some (some (.ref f_opens)))
    (l_opens : K.lookup f_opens = some ⟨oc_opens, od_opens, .func (PySem.W.fnOf "_are_openings" "_are_openings" (defArgs sOpens) (defBody sOpens) (defScope sOpens) .none kV_opens dc_opens pm_opens an_opens cd_opens ct_opens), sl_opens⟩)
    (c_opens : PySem.W.codeIn K cd_opens "_are_openings" = true)
    (k_opens : PySem.W.keepIn K (.ref f_opens) = true)
    (a_openq : PySem.W.nsIn K mainGlobals "_is_opening" = some (some (.ref f_openq)))
    (l_openq : K.lookup f_openq = some ⟨oc_openq, od_openq, .func (PySem.W.fnOf "_is_opening" "_is_opening" (defArgs sOpenQ) (defBody sOpenQ) (defScope sOpenQ) .none kV_openq dc_openq pm_openq an_openq cd_openq ct_openq), sl_openq⟩)
    (c_openq : PySem.W.codeIn K cd_openq "_is_opening" = true)
    (k_openq : PySem.W.keepIn K (.ref f_openq) = true)
    (a_needq : PySem.W.nsIn K mainGlobals "_is_need" = some (some (.ref f_needq)))
    (l_needq : K.lookup f_needq = some ⟨oc_needq, od_needq, .func (PySem.W.fnOf "_is_need" "_is_need" (defArgs sNeedQ) (defBody sNeedQ) (defScope sNeedQ) .none kV_needq dc_needq pm_needq an_needq cd_needq ct_needq), sl_needq⟩)
    (c_needq : PySem.W.codeIn K cd_needq "_is_need" = true)
    (k_needq : PySem.W.keepIn K (.ref f_needq) = true)
    (a_one : PySem.W.nsIn K mainGlobals "_has_one_part" = some (some (.ref f_one)))
    (l_one : K.lookup f_one = some ⟨oc_one, od_one, .func (PySem.W.fnOf "_has_one_part" "_has_one_part" (defArgs sOne) (defBody sOne) (defScope sOne) .none kV_one dc_one pm_one an_one cd_one ct_one), sl_one⟩)
    (c_one : PySem.W.codeIn K cd_one "_has_one_part" = true)
    (k_one : PySem.W.keepIn K (.ref f_one) = true)
    (a_nd : PySem.W.nsIn K mainGlobals "_needed_thing" = some (some (.ref f_nd)))
    (l_nd : K.lookup f_nd = some ⟨oc_nd, od_nd, .func (PySem.W.fnOf "_needed_thing" "_needed_thing" (defArgs sNd) (defBody sNd) (defScope sNd) .none kV_nd dc_nd pm_nd an_nd cd_nd ct_nd), sl_nd⟩)
    (c_nd : PySem.W.codeIn K cd_nd "_needed_thing" = true)
    (k_nd : PySem.W.keepIn K (.ref f_nd) = true)
    (a_std : PySem.W.nsIn K mainGlobals "standard_book" = some (some (.ref f_std)))
    (l_std : K.lookup f_std = some ⟨oc_std, od_std, .func (PySem.W.fnOf "standard_book" "standard_book" (defArgs sStd) (defBody sStd) (defScope sStd) .none kV_std dc_std pm_std an_std cd_std ct_std), sl_std⟩)
    (c_std : PySem.W.codeIn K cd_std "standard_book" = true)
    (k_std : PySem.W.keepIn K (.ref f_std) = true)
    (a_C : PySem.W.nsIn K mainGlobals "Book" = some (some (.ref C)))
    (a_init : PySem.W.findIn K (.ref C) "__init__" = some (some (.ref f_init)))
    (i_init : PySem.W.isFn K (.ref f_init) = true)
    (l_init : K.lookup f_init = some ⟨oc_init, od_init, .func (PySem.W.fnOf "__init__" "Book.__init__" (defArgs sInit) (defBody sInit) (defScope sInit) .none kV_init dc_init pm_init an_init cd_init ct_init), sl_init⟩)
    (c_init : PySem.W.codeIn K cd_init "Book.__init__" = true)
    (k_init : PySem.W.keepIn K (.ref f_init) = true)
    (a_needed : PySem.W.findIn K (.ref C) "needed" = some (some (.ref f_needed)))
    (i_needed : PySem.W.isFn K (.ref f_needed) = true)
    (l_needed : K.lookup f_needed = some ⟨oc_needed, od_needed, .func (PySem.W.fnOf "needed" "Book.needed" (defArgs sNeeded) (defBody sNeeded) (defScope sNeeded) .none kV_needed dc_needed pm_needed an_needed cd_needed ct_needed), sl_needed⟩)
    (c_needed : PySem.W.codeIn K cd_needed "Book.needed" = true)
    (k_needed : PySem.W.keepIn K (.ref f_needed) = true)
    (pg : PySem.W.plainGet K C Str.empty = true)
    (hd : PySem.W.hasDictIn K C = true)
    (po : PySem.W.plainOver K C = true)
    (sa : PySem.W.findIn K (.ref C) "__setattr__" = some (some (.builtin "object.__setattr__")))
    (mk : PySem.W.makesIn K C = true)
    (kc : PySem.W.keepIn K (.ref C) = true)
    (nK : PySem.W.findIn K (.ref C) "kinds" = some none)
    (nO : PySem.W.findIn K (.ref C) "openings" = some none)
    (g_longest : PySem.W.nsIn K mainGlobals "LONGEST" = some (some (.int 8 t1)))
    (g_letters : PySem.W.nsIn K mainGlobals "LETTERS" = some (some (.str (PySem.Str.ofString "abcdefghijklmnopqrstuvwxyz") t2)))
    (g_mostp : PySem.W.nsIn K mainGlobals "MOST_PARTS" = some (some (.int 3 t3)))
    (g_mostn : PySem.W.nsIn K mainGlobals "MOST_NEEDS" = some (some (.int 2 t4)))
    (z_int : PySem.W.nsIn K mainGlobals "int" = some none)
    (z_list : PySem.W.nsIn K mainGlobals "list" = some none)
    (z_range : PySem.W.nsIn K mainGlobals "range" = some none)
    (z_tuple : PySem.W.nsIn K mainGlobals "tuple" = some none)
    (z_isinstance : PySem.W.nsIn K mainGlobals "isinstance" = some none)
    (z_repr : PySem.W.nsIn K mainGlobals "repr" = some none)
    (z_str : PySem.W.nsIn K mainGlobals "str" = some none)
    (z_bool : PySem.W.nsIn K mainGlobals "bool" = some none)
    (z_len : PySem.W.nsIn K mainGlobals "len" = some none)
    (z_all : PySem.W.nsIn K mainGlobals "all" = some none)
    (z_zip : PySem.W.nsIn K mainGlobals "zip" = some none)
    (z_dict : PySem.W.nsIn K mainGlobals "dict" = some none)
    (a_kk : PySem.W.nsIn K mainGlobals "STANDARD_KINDS" = some (some (.ref kk)))
    (a_oo : PySem.W.nsIn K mainGlobals "STANDARD_OPENINGS" = some (some (.ref oo)))
    (S : Std K kk oo ps0 as0) :
    ∃ fd : FuncData, (∀ (s : Shared) (v : Value), BindsTo s fd ⟨[v], []⟩ [("_law_script", v)]) ∧ ∀ base : Heap, K.In base → base.Ns mainGlobals mg → FnG P w K mg base 11 fa fd ["_law_script"] (spLaw K) := by
  have e := hfa.symm.trans (PySem.W.mg_of X G a_law)
  cases e
  have F_deck := fun_mk (st := sDeck) l_deck c_deck k_deck
  have F_draw := fun_mk (st := sDraw) l_draw c_draw k_draw
  have F_pick := fun_mk (st := sPick) l_pick c_pick k_pick
  have F_need := fun_mk (st := sNeed) l_need c_need k_need
  have F_kit := fun_mk (st := sKit) l_kit c_kit k_kit
  have F_thing := fun_mk (st := sThing) l_thing c_thing k_thing
  have F_wanted := fun_mk (st := sWanted) l_wanted c_wanted k_wanted
  have F_due := fun_mk (st := sDue) l_due c_due k_due
  have F_fit := fun_mk (st := sFit) l_fit c_fit k_fit
  have F_right := fun_mk (st := sRight) l_right c_right k_right
  have F_law := fun_mk (st := sLaw) l_law c_law k_law
  have F_word := fun_mk (st := sWord) l_word c_word k_word
  have F_int := fun_mk (st := sInt) l_int c_int k_int
  have F_asc := fun_mk (st := sAsc) l_asc c_asc k_asc
  have F_kinds := fun_mk (st := sKinds) l_kinds c_kinds k_kinds
  have F_kindq := fun_mk (st := sKindQ) l_kindq c_kindq k_kindq
  have F_opens := fun_mk (st := sOpens) l_opens c_opens k_opens
  have F_openq := fun_mk (st := sOpenQ) l_openq c_openq k_openq
  have F_needq := fun_mk (st := sNeedQ) l_needq c_needq k_needq
  have F_one := fun_mk (st := sOne) l_one c_one k_one
  have F_nd := fun_mk (st := sNd) l_nd c_nd k_nd
  have F_std := fun_mk (st := sStd) l_std c_std k_std
  have F_init := fun_mk (st := sInit) l_init c_init k_init
  have F_needed := fun_mk (st := sNeeded) l_needed c_needed k_needed
  have b_deck := F_deck.binds (ps := ["_law_script"]) fun _ _ _ _ _ _ us hl => match us, hl with | [_], _ => rfl
  have b_draw := F_draw.binds (ps := ["_law_deck_here", "_law_below"]) fun _ _ _ _ _ _ us hl => match us, hl with | [_, _], _ => rfl
  have b_pick := F_pick.binds (ps := ["_law_deck_here", "_law_some"]) fun _ _ _ _ _ _ us hl => match us, hl with | [_, _], _ => rfl
  have b_need := F_need.binds (ps := ["_law_deck_here", "_law_singles", "_law_many"]) fun _ _ _ _ _ _ us hl => match us, hl with | [_, _, _], _ => rfl
  have b_kit := F_kit.binds (ps := ["_law_deck_here"]) fun _ _ _ _ _ _ us hl => match us, hl with | [_], _ => rfl
  have b_thing := F_thing.binds (ps := ["_law_deck_here", "_law_makes", "_law_leaves", "_law_top", "_law_deep"]) fun _ _ _ _ _ _ us hl => match us, hl with | [_, _, _, _, _], _ => rfl
  have b_wanted := F_wanted.binds (ps := ["_law_need_here", "_law_it"]) fun _ _ _ _ _ _ us hl => match us, hl with | [_, _], _ => rfl
  have b_due := F_due.binds (ps := ["_law_needs", "_law_it"]) fun _ _ _ _ _ _ us hl => match us, hl with | [_, _], _ => rfl
  have b_fit := F_fit.binds (ps := ["_law_deck_here", "_law_makes", "_law_item"]) fun _ _ _ _ _ _ us hl => match us, hl with | [_, _, _], _ => rfl
  have b_right := F_right.binds (ps := ["_law_deck_here", "_law_code", "_law_makes", "_law_item"]) fun _ _ _ _ _ _ us hl => match us, hl with | [_, _, _, _], _ => rfl
  have b_word := F_word.binds (ps := ["thing"]) fun _ _ _ _ _ _ us hl => match us, hl with | [_], _ => rfl
  have b_int := F_int.binds (ps := ["value", "low", "high"]) fun _ _ _ _ _ _ us hl => match us, hl with | [_, _, _], _ => rfl
  have b_asc := F_asc.binds (ps := ["texts"]) fun _ _ _ _ _ _ us hl => match us, hl with | [_], _ => rfl
  have b_kinds := F_kinds.binds (ps := ["kinds"]) fun _ _ _ _ _ _ us hl => match us, hl with | [_], _ => rfl
  have b_kindq := F_kindq.binds (ps := ["kind"]) fun _ _ _ _ _ _ us hl => match us, hl with | [_], _ => rfl
  have b_opens := F_opens.binds (ps := ["counts", "openings"]) fun _ _ _ _ _ _ us hl => match us, hl with | [_, _], _ => rfl
  have b_openq := F_openq.binds (ps := ["counts", "opening"]) fun _ _ _ _ _ _ us hl => match us, hl with | [_, _], _ => rfl
  have b_needq := F_needq.binds (ps := ["counts", "last", "need"]) fun _ _ _ _ _ _ us hl => match us, hl with | [_, _, _], _ => rfl
  have b_one := F_one.binds (ps := ["counts", "kind"]) fun _ _ _ _ _ _ us hl => match us, hl with | [_, _], _ => rfl
  have b_nd := F_nd.binds (ps := ["need", "thing"]) fun _ _ _ _ _ _ us hl => match us, hl with | [_, _], _ => rfl
  have b_std := F_std.binds (ps := []) fun _ _ _ _ _ _ us hl => match us, hl with | [], _ => rfl
  have b_init := F_init.binds (ps := ["self", "kinds", "openings"]) fun _ _ _ _ _ _ us hl => match us, hl with | [_, _, _], _ => rfl
  have b_needed := F_needed.binds (ps := ["self", "opening", "thing"]) fun _ _ _ _ _ _ us hl => match us, hl with | [_, _, _], _ => rfl
  have TD : TxtD mg := ⟨(PySem.W.mg_none_of X G z_int), (PySem.W.mg_none_of X G z_list)⟩
  have TP : TxtP K mg f_draw f_pick := { toTxtD := TD, len := (PySem.W.mg_none_of X G z_len), gD := (PySem.W.mg_of X G a_draw), kD := k_draw, gP := (PySem.W.mg_of X G a_pick), kP := k_pick }
  have TK : TxtK K mg f_draw f_pick f_need := { toTxtP := TP, range := (PySem.W.mg_none_of X G z_range), tuple := (PySem.W.mg_none_of X G z_tuple), gN := (PySem.W.mg_of X G a_need), kN := k_need }
  have TT : TxtT K mg f_draw f_pick f_thing := { toTxtP := TP, range := (PySem.W.mg_none_of X G z_range), gT := (PySem.W.mg_of X G a_thing), kT := k_thing }
  have TW : TxtW mg := { isi := (PySem.W.mg_none_of X G z_isinstance), str := (PySem.W.mg_none_of X G z_str), int := (PySem.W.mg_none_of X G z_int), bool := (PySem.W.mg_none_of X G z_bool), tuple := (PySem.W.mg_none_of X G z_tuple), len := (PySem.W.mg_none_of X G z_len), all := (PySem.W.mg_none_of X G z_all), zip := (PySem.W.mg_none_of X G z_zip), dict := (PySem.W.mg_none_of X G z_dict), longest := ⟨_, PySem.W.mg_of X G g_longest, rI⟩, letters := ⟨_, PySem.W.mg_of X G g_letters, rS⟩ }
  have TB : TxtB K mg f_word f_int f_asc := { toTxtW := TW, gW := (PySem.W.mg_of X G a_word), kW := k_word, gI := (PySem.W.mg_of X G a_int), kI := k_int, gA := (PySem.W.mg_of X G a_asc), kA := k_asc, mostP := ⟨_, PySem.W.mg_of X G g_mostp, rI⟩, mostN := ⟨_, PySem.W.mg_of X G g_mostn, rI⟩ }
  have TI : TxtI K mg C f_kinds f_opens := ⟨⟨pg, hd, po, sa⟩, nK, nO, (PySem.W.mg_of X G a_kinds), k_kinds, (PySem.W.mg_of X G a_opens), k_opens⟩
  have TN : TxtN mg := ⟨(PySem.W.mg_none_of X G z_isinstance), (PySem.W.mg_none_of X G z_tuple)⟩
  have TM : TxtM K mg C f_nd := { toTxtN := TN, cl := ⟨pg, hd, po, sa⟩, nK := nK, nO := nO, gN := (PySem.W.mg_of X G a_nd), kN := k_nd }
  have TU : TxtU K mg f_wanted := { toTxtN := TN, gW := (PySem.W.mg_of X G a_wanted), kW := k_wanted }
  have TF : TxtF K mg f_draw f_thing := ⟨(PySem.W.mg_none_of X G z_range), (PySem.W.mg_none_of X G z_dict), (PySem.W.mg_none_of X G z_list), (PySem.W.mg_of X G a_draw), k_draw, (PySem.W.mg_of X G a_thing), k_thing⟩
  have TR : TxtR K mg C f_fit f_due f_needed := ⟨⟨pg, hd, po, sa⟩, nK, nO, ⟨a_needed, i_needed, k_needed⟩, (PySem.W.mg_none_of X G z_repr), (PySem.W.mg_of X G a_fit), k_fit, (PySem.W.mg_of X G a_due), k_due⟩
  have TS : TxtS K mg C kk oo := ⟨(PySem.W.mg_of X G a_C), ⟨_, PySem.W.mg_of X G a_kk, rfl⟩, ⟨_, PySem.W.mg_of X G a_oo, rfl⟩⟩
  have TL : TxtL K mg C f_deck f_kit f_right f_std f_needed := ⟨⟨pg, hd, po, sa⟩, ⟨a_needed, i_needed, k_needed⟩, (PySem.W.mg_none_of X G z_range), (PySem.W.mg_none_of X G z_repr), (PySem.W.mg_of X G a_C), (PySem.W.mg_of X G a_deck), k_deck, (PySem.W.mg_of X G a_kit), k_kit, (PySem.W.mg_of X G a_right), k_right, (PySem.W.mg_of X G a_std), k_std⟩
  have bM2 : ∀ (s : Shared) (a u v : Value), BindsTo s (PySem.W.fnOf "needed" "Book.needed" (defArgs sNeeded) (defBody sNeeded) (defScope sNeeded) .none kV_needed dc_needed pm_needed an_needed cd_needed ct_needed) ⟨[a], [(PySem.Str.ofString "thing", u), (PySem.Str.ofString "opening", v)]⟩ ((["self", "opening", "thing"] : List Str).zip [a, v, u]) := fun s a u v => .of_eq rfl
  refine ⟨(PySem.W.fnOf "law" "law" (defArgs sLaw) (defBody sLaw) (defScope sLaw) .none kV_law dc_law pm_law an_law cd_law ct_law), fun s v => .of_eq rfl, fun base _ _ => ?_⟩
  have GD : FnOk P w K mg base CX0 1 f_draw _ ["_law_deck_here", "_law_below"] spDraw := ok_draw F_draw TD
  have GP := ok_pick F_pick GD b_draw TP
  have GN := ok_need F_need GD b_draw GP b_pick TP
  have GT := ok_kit F_kit GD b_draw GP b_pick GN b_need TK
  have H0 : FnOk P w K mg base CX0 2 f_thing (PySem.W.fnOf "_law_thing" "_law_thing" (defArgs sThing) (defBody sThing) (defScope sThing) .none kV_thing dc_thing pm_thing an_thing cd_thing ct_thing) ["_law_deck_here", "_law_makes", "_law_leaves", "_law_top", "_law_deep"] (fun _ _ _ _ => False) := ⟨fun _ _ _ _ z => z.elim, fun _ _ _ _ _ _ _ _ _ _ _ _ _ z => z.elim⟩
  have T0 := ok_thing (j := 0) (n := 0) F_thing GD b_draw GP b_pick b_thing TT H0 (fun m z => absurd z (by omega))
  have T1 := ok_thing (j := 1) (n := 1) F_thing GD b_draw GP b_pick b_thing TT T0 (fun m z => (by omega : m = 0) ▸ fun _ _ _ _ q => q)
  have T2 := ok_thing (j := 2) (n := 2) F_thing GD b_draw GP b_pick b_thing TT T1 (fun m z => (by omega : m = 1) ▸ fun _ _ _ _ q => q)
  have T3 := ok_thing (j := 3) (n := 3) F_thing GD b_draw GP b_pick b_thing TT T2 (fun m z => (by omega : m = 2) ▸ fun _ _ _ _ q => q)
  have T4 := ok_thing (j := 4) (n := 4) F_thing GD b_draw GP b_pick b_thing TT T3 (fun m z => (by omega : m = 3) ▸ fun _ _ _ _ q => q)
  have T5 := ok_thing (j := 5) (n := 5) F_thing GD b_draw GP b_pick b_thing TT T4 (fun m z => (by omega : m = 4) ▸ fun _ _ _ _ q => q)
  have L : Lows P w K mg base f_word f_int f_asc _ _ _ := ⟨ok_word F_word TW, b_word, ok_int F_int TW, b_int, ok_asc F_asc TW, b_asc⟩
  have GQ := ok_kindQ F_kindq TB L
  have GK := ok_kinds F_kinds TB L GQ b_kindq (PySem.W.mg_of X G a_kindq) k_kindq
  have GO1 := ok_one F_one TB L
  have GNQ := ok_needQ F_needq TB L GO1 b_one (PySem.W.mg_of X G a_one) k_one
  have GOQ := ok_openQ F_openq TB L GNQ b_needq (PySem.W.mg_of X G a_needq) k_needq
  have GO := ok_opens F_opens TB L GOQ b_openq (PySem.W.mg_of X G a_openq) k_openq
  have GI := ok_init (fW := f_word) (fI := f_word) (fA := f_word) F_init TI TW GK b_kinds GO b_opens
  have MK : Mk K C f_init := ⟨mk, a_init, i_init, kc⟩
  have GS := ok_std F_std TS S MK GI b_init
  have GND : FnOk P w K mg base CX0 1 f_nd _ ["need", "thing"] (spNd K) := ok_nd F_nd TN
  have GM := ok_needed F_needed TM GND b_nd
  have GW : FnOk P w K mg base CX0 1 f_wanted _ ["_law_need_here", "_law_it"] (spWanted K) := ok_wanted F_wanted TN
  have GU := ok_due F_due TU GW b_wanted
  have GF := ok_fit F_fit GD b_draw T5 T3 b_thing TF
  have GR := ok_right F_right TR GF b_fit GU b_due GM b_needed bM2
  exact ok_law F_law TL S (ok_deck F_deck TD) b_deck GT b_kit MK GI b_init GS b_std GM b_needed GR b_right
end
end K05

open PySem PySem.W PyProof.Rows
set_option Elab.async false
set_option maxRecDepth 100000 in
set_option maxHeartbeats 0 in
theorem PySem.Challenge.cw_sealedalike_k05_needed_things_holds : PySem.Challenge.rw_sealedalike_k05_needed_things.Holds := by
  w_on; o_law; k_head; (case hw => w_witness2)
  k_fill
  refine Mine.walkG (l := PySem.Challenge.rw_sealedalike_k05_needed_things) (k := 11) (n := 63) (x := "_law_script") (sp := K05.spLaw) rfl (by decide) rfl ⟨rfl, by decide, by decide⟩ (fun w h Y => PySem.W.kIn_of Y) ?F (fun K H a ns hl _ hS => ⟨a, ns, rfl, hS, hl, fun _ => rfl⟩)
  case F =>
    intro w mg fa h KX G hmg
    refine' K05.all_mk KX G hmg ?q9a_deck ?q9l_deck ?q9c_deck ?q9k_deck ?q9a_draw ?q9l_draw ?q9c_draw ?q9k_draw ?q9a_pick ?q9l_pick ?q9c_pick ?q9k_pick ?q9a_need ?q9l_need ?q9c_need ?q9k_need ?q9a_kit ?q9l_kit ?q9c_kit ?q9k_kit ?q9a_thing ?q9l_thing ?q9c_thing ?q9k_thing ?q9a_wanted ?q9l_wanted ?q9c_wanted ?q9k_wanted ?q9a_due ?q9l_due ?q9c_due ?q9k_due ?q9a_fit ?q9l_fit ?q9c_fit ?q9k_fit ?q9a_right ?q9l_right ?q9c_right ?q9k_right ?q9a_law ?q9l_law ?q9c_law ?q9k_law ?q9a_word ?q9l_word ?q9c_word ?q9k_word ?q9a_int ?q9l_int ?q9c_int ?q9k_int ?q9a_asc ?q9l_asc ?q9c_asc ?q9k_asc ?q9a_kinds ?q9l_kinds ?q9c_kinds ?q9k_kinds ?q9a_kindq ?q9l_kindq ?q9c_kindq ?q9k_kindq ?q9a_opens ?q9l_opens ?q9c_opens ?q9k_opens ?q9a_openq ?q9l_openq ?q9c_openq ?q9k_openq ?q9a_needq ?q9l_needq ?q9c_needq ?q9k_needq ?q9a_one ?q9l_one ?q9c_one ?q9k_one ?q9a_nd ?q9l_nd ?q9c_nd ?q9k_nd ?q9a_std ?q9l_std ?q9c_std ?q9k_std ?q9a_C ?q9a_init ?q9i_init ?q9l_init ?q9c_init ?q9k_init ?q9a_needed ?q9i_needed ?q9l_needed ?q9c_needed ?q9k_needed ?q9pg ?q9hd ?q9po ?q9sa ?q9mk ?q9kc ?q9nK ?q9nO ?q9g_longest ?q9g_letters ?q9g_mostp ?q9g_mostn ?q9z_int ?q9z_list ?q9z_range ?q9z_tuple ?q9z_isinstance ?q9z_repr ?q9z_str ?q9z_bool ?q9z_len ?q9z_all ?q9z_zip ?q9z_dict ?q9a_kk ?q9a_oo ?q9std
    (case q9a_deck => k_is)
    (case q9l_deck => k_is)
    (case q9c_deck => k_is)
    (case q9k_deck => k_is)
    (case q9a_draw => k_is)
    (case q9l_draw => k_is)
    (case q9c_draw => k_is)
    (case q9k_draw => k_is)
    (case q9a_pick => k_is)
    (case q9l_pick => k_is)
    (case q9c_pick => k_is)
    (case q9k_pick => k_is)
    (case q9a_need => k_is)
    (case q9l_need => k_is)
    (case q9c_need => k_is)
    (case q9k_need => k_is)
    (case q9a_kit => k_is)
    (case q9l_kit => k_is)
    (case q9c_kit => k_is)
    (case q9k_kit => k_is)
    (case q9a_thing => k_is)
    (case q9l_thing => k_is)
    (case q9c_thing => k_is)
    (case q9k_thing => k_is)
    (case q9a_wanted => k_is)
    (case q9l_wanted => k_is)
    (case q9c_wanted => k_is)
    (case q9k_wanted => k_is)
    (case q9a_due => k_is)
    (case q9l_due => k_is)
    (case q9c_due => k_is)
    (case q9k_due => k_is)
    (case q9a_fit => k_is)
    (case q9l_fit => k_is)
    (case q9c_fit => k_is)
    (case q9k_fit => k_is)
    (case q9a_right => k_is)
    (case q9l_right => k_is)
    (case q9c_right => k_is)
    (case q9k_right => k_is)
    (case q9a_law => k_is)
    (case q9l_law => k_is)
    (case q9c_law => k_is)
    (case q9k_law => k_is)
    (case q9a_word => k_is)
    (case q9l_word => k_is)
    (case q9c_word => k_is)
    (case q9k_word => k_is)
    (case q9a_int => k_is)
    (case q9l_int => k_is)
    (case q9c_int => k_is)
    (case q9k_int => k_is)
    (case q9a_asc => k_is)
    (case q9l_asc => k_is)
    (case q9c_asc => k_is)
    (case q9k_asc => k_is)
    (case q9a_kinds => k_is)
    (case q9l_kinds => k_is)
    (case q9c_kinds => k_is)
    (case q9k_kinds => k_is)
    (case q9a_kindq => k_is)
    (case q9l_kindq => k_is)
    (case q9c_kindq => k_is)
    (case q9k_kindq => k_is)
    (case q9a_opens => k_is)
    (case q9l_opens => k_is)
    (case q9c_opens => k_is)
    (case q9k_opens => k_is)
    (case q9a_openq => k_is)
    (case q9l_openq => k_is)
    (case q9c_openq => k_is)
    (case q9k_openq => k_is)
    (case q9a_needq => k_is)
    (case q9l_needq => k_is)
    (case q9c_needq => k_is)
    (case q9k_needq => k_is)
    (case q9a_one => k_is)
    (case q9l_one => k_is)
    (case q9c_one => k_is)
    (case q9k_one => k_is)
    (case q9a_nd => k_is)
    (case q9l_nd => k_is)
    (case q9c_nd => k_is)
    (case q9k_nd => k_is)
    (case q9a_std => k_is)
    (case q9l_std => k_is)
    (case q9c_std => k_is)
    (case q9k_std => k_is)
    (case q9a_C => k_is)
    (case q9a_init => k_is)
    (case q9i_init => k_is)
    (case q9l_init => k_is)
    (case q9c_init => k_is)
    (case q9k_init => k_is)
    (case q9a_needed => k_is)
    (case q9i_needed => k_is)
    (case q9l_needed => k_is)
    (case q9c_needed => k_is)
    (case q9k_needed => k_is)
    (case q9pg => k_is)
    (case q9hd => k_is)
    (case q9po => k_is)
    (case q9sa => k_is)
    (case q9mk => k_is)
    (case q9kc => k_is)
    (case q9nK => k_is)
    (case q9nO => k_is)
    (case q9g_longest => k_is)
    (case q9g_letters => k_is)
    (case q9g_mostp => k_is)
    (case q9g_mostn => k_is)
    (case q9z_int => k_is)
    (case q9z_list => k_is)
    (case q9z_range => k_is)
    (case q9z_tuple => k_is)
    (case q9z_isinstance => k_is)
    (case q9z_repr => k_is)
    (case q9z_str => k_is)
    (case q9z_bool => k_is)
    (case q9z_len => k_is)
    (case q9z_all => k_is)
    (case q9z_zip => k_is)
    (case q9z_dict => k_is)
    (case q9a_kk => k_is)
    (case q9a_oo => k_is)
    case q9std =>
      refine' K05.std_mk ?q8l_kk ?q8l_ka0 ?q8l_ka1 ?q8l_ka2 ?q8l_ka3 ?q8l_ka4 ?q8l_ka5 ?q8l_oo ?q8l_oa0 ?q8l_ob0 ?q8l_oa1 ?q8l_ob1 ?q8l_oc1 ?q8l_oa2 ?q8l_ob2 ?q8l_oa3 ?q8l_ob3 ?q8l_oa4 ?q8l_ob4 ?q8l_oc4 ?q8l_oa5 ?q8l_ob5 ?q8l_oc5
      (case q8l_kk => k_is)
      (case q8l_ka0 => k_is)
      (case q8l_ka1 => k_is)
      (case q8l_ka2 => k_is)
      (case q8l_ka3 => k_is)
      (case q8l_ka4 => k_is)
      (case q8l_ka5 => k_is)
      (case q8l_oo => k_is)
      (case q8l_oa0 => k_is)
      (case q8l_ob0 => k_is)
      (case q8l_oa1 => k_is)
      (case q8l_ob1 => k_is)
      (case q8l_oc1 => k_is)
      (case q8l_oa2 => k_is)
      (case q8l_ob2 => k_is)
      (case q8l_oa3 => k_is)
      (case q8l_ob3 => k_is)
      (case q8l_oa4 => k_is)
      (case q8l_ob4 => k_is)
      (case q8l_oc4 => k_is)
      (case q8l_oa5 => k_is)
      (case q8l_ob5 => k_is)
      (case q8l_oc5 => k_is)

