import PyProof.Rows.All
import Wide.All
import OpenK.AllK
import Wide.FinOn
import PyProof.ReprRoads
import KE.KExcIs
import KE.KExcInit
import HandS.ForMost
import HandS.Exc
import HandS.TryMany
import HandS.ExcOwn
import HandS.ExcInit
import HandS.IsInst
import HandS.Style
import HandS.ExcValue
import HandS.WordsExc
import HandS.ExcIs
import PySem.Challenge.RW_sealedalike_k01_errors
set_option Elab.async false
set_option linter.all false
set_option maxRecDepth 100000
set_option maxHeartbeats 2000000
namespace Mine
open PySem PySem.Spec PyProof.Rows L2

/-- the chain of classes above the package's own errors -/
abbrev chain : List Value := [.type "Exception", .type "BaseException", .type "object"]

/-- what the top says of an error class, whoever reads its instances -/
structure ErrA (K : PySem.W.Frag) (C : Addr) : Prop where
  kp : PySem.W.keepIn K (.ref C) = true
  cl : PySem.W.isClsIn K C = true
  ga : PySem.W.findIn K (.ref C) "__getattribute__" = some (some (.builtin "BaseException.__getattribute__"))
  gg : PySem.W.findIn K (.ref C) "__getattr__" = some none
  su : PySem.W.subIn K (.ref C) (.type "BaseException") = some true
  ca : PySem.W.findIn K (.ref C) "__class__" = some (some (.builtin "object.__class__"))
  cn : PySem.W.specialIn K (.builtin "object.__class__") "__get__" = some (some (.builtin "getset_descriptor.__get__"))
  ct : PySem.W.takesIn K (.builtin "object.__class__") = some true
  cm : PySem.W.mroIn K C (.type "object") = some true
  ty : PySem.W.typeIn K (.ref C) = some (.type "type")
  hd : PySem.W.hasDictIn K C = true

/-- an error object at a, of the class at C: bare, or with its dict -/
def EAt (H : Hp) (a C : Addr) : Option (Addr × List (Str × V)) → Prop
  | none => H a = some (exo a C none)
  | some (dx, fs) => H a = some (exo a C (some dx)) ∧ H dx = some (exd dx fs)

theorem EAt.inst {X : Cx} {pins : List (Addr × Obj)} {σ : L2.St} {H : Hp} {s : Shared} {a C : Addr} {o : Option (Addr × List (Str × V))} (I : Inv X pins σ H s) (h : EAt H a C o) :
    ∃ ox od, PySem.W.InstAt s.heap a ox C od := by
  cases o with
  | none =>
    obtain ⟨t, e⟩ := exo_at I.hok h
    exact ⟨_, none, e, rfl, rfl, trivial⟩
  | some p =>
    obtain ⟨dx, fs⟩ := p
    obtain ⟨t, e⟩ := exo_at I.hok h.1
    obtain ⟨m, ⟨od, es, ep, e2, _⟩, _⟩ := exd_at I.hok h.2
    exact ⟨_, some od, e, rfl, rfl, e2⟩

/-! isinstance of an error that is held -/
def rIs (K : PySem.W.Frag) : List V → Hp → VK → Prop := fun xs H Q => ∃ (a C : Addr) (o : Option (Addr × List (Str × V))) (c : V) (u : Value) (b : Bool),
  xs = [.ref a, c] ∧ EAt H a C o ∧ ErrA K C ∧ ClsV c u ∧ PySem.W.kitOne K (.ref C) u = some b ∧ Q (.bl b) H
def rIsMany (K : PySem.W.Frag) : List V → Hp → VK → Prop := fun xs H Q => ∃ (a C tp : Addr) (o : Option (Addr × List (Str × V))) (cs : List V) (us : List Value) (b : Bool),
  xs = [.ref a, .ref tp] ∧ EAt H a C o ∧ ErrA K C ∧ H tp = some (.tup cs) ∧ Paired ClsV cs us ∧ PySem.W.kitAny K (.ref C) us = some b ∧ Q (.bl b) H
theorem isOne {X : Cx} : CallR X (.builtin "isinstance") (rIs X.K) := by
  intro pins s σ H xs us Q I r h
  obtain ⟨a, C, o, c, u, b, rfl, ha, T, k, e, q⟩ := h
  obtain ⟨u1, u2, rfl, r1, r2⟩ := vals2 r
  have e2 := k.eq r2
  subst e2
  cases (show u1 = Value.ref a from r1)
  obtain ⟨ox, od, J⟩ := ha.inst I
  have Z : PySem.W.KitX X.K (.ref a) (.ref C) (fun h => PySem.W.InstAt h a ox C od) := PySem.W.kitx_exc T.cl T.ga T.gg T.su T.ca T.cn T.ct T.cm
  exact PySem.W.kia_one Z I.kIn J e (fun z => nomatch z) fun tk => ⟨.bl b, H, I.tok tk, rfl, q⟩
theorem isMany {X : Cx} : CallR X (.builtin "isinstance") (rIsMany X.K) := by
  intro pins s σ H xs us Q I r h
  obtain ⟨a, C, tp, o, cs, ws, b, rfl, ha, T, hT, k, e, q⟩ := h
  obtain ⟨u1, u2, rfl, r1, r2⟩ := vals2 r
  cases (show u1 = Value.ref a from r1)
  cases (show u2 = Value.ref tp from r2)
  obtain ⟨ox, od, J⟩ := ha.inst I
  obtain ⟨_, its, rv, o', h1, h2, n, h3⟩ := (show ObjOk X.prog X.w H s.heap tp (.tup cs) from I.hok tp _ hT)
  have e3 := ClsV.all k rv
  subst e3
  obtain ⟨oc, od', dt, sl⟩ := o'
  simp only at h2 h3
  subst h2 h3
  have Z : PySem.W.KitX X.K (.ref a) (.ref C) (fun h => PySem.W.InstAt h a ox C od) := PySem.W.kitx_exc T.cl T.ga T.gg T.su T.ca T.cn T.ct T.cm
  exact PySem.W.kia_tup Z I.kIn J h1 e (fun z => nomatch z) fun tk => ⟨.bl b, H, I.tok tk, rfl, q⟩

/-! a field of an error that is held -/
def tFld (K : PySem.W.Frag) (n : Str) (te : TE) : TE := fun σ H Q => te σ H fun x H1 => ∃ (a C dx : Addr) (fs : List (Str × V)) (v : V), x = .ref a ∧ EAt H1 a C (some (dx, fs)) ∧ ErrA K C ∧ PySem.W.findIn K (.ref C) n = some none ∧ fs.lookup n = some v ∧ Q v H1
theorem pe_efld {X : Cx} {e : Expr} {te : TE} {pos : Pos} {n : Str} (he : PE X e te) (hb : attributeBase e n X.env (eval e X.env) = eval e X.env := by rfl) : PE X (.Attribute e n pos) (tFld X.K n te) := by
  refine ⟨fun pins s σ H Q I h => ?_⟩
  refine attr_of hb (thn (he.run pins s σ H _ I h) fun u s1 hh => ?_)
  obtain ⟨x, H1, I1, rx, a, C, dx, fs, v, ex, ea, T, hno, l, q⟩ := hh
  subst ex
  obtain rfl : u = Value.ref a := rx
  obtain ⟨t, hx⟩ := exo_at I1.hok ea.1
  obtain ⟨mA, hns, hr⟩ := exd_at I1.hok ea.2
  obtain ⟨od, ho, hl⟩ := lookIn_ns hns
  obtain ⟨u, hu, ru⟩ := RelO.some_of (v := v) (o := mA n) (by rw [← l]; exact hr n)
  have J : PySem.W.InstAt s1.heap a _ C (some od) := ⟨hx, rfl, rfl, ho⟩
  exact HandSPX.exc_get I1.kIn J T.ga T.gg T.su (PySem.W.findObj_own T.hd hno rfl (by rw [hl, hu])) (handed_of ru) ⟨v, H1, I1.tok _, ru, q⟩

/-! two new objects beside all that was there: an error and its dict -/
theorem inv_two {X : Cx} {pins : List (Addr × Obj)} {σ : L2.St} {H : Hp} {s : Shared} {h' : Heap} {a dx : Addr} {o u : HO} {tk : Nat} (I : Inv X pins σ H s) (k : ∀ b z, s.heap.get? b = some z → h'.get? b = some z) (ha : s.heap.objs.size ≤ a) (hd : s.heap.objs.size ≤ dx) (ne : dx ≠ a)
    (oa : ObjOk X.prog X.w (upd (upd H dx u) a o) h' a o) (ou : ObjOk X.prog X.w (upd (upd H dx u) a o) h' dx u) : Inv X pins σ (upd (upd H dx u) a o) { s with heap := h', toks := tk } := by
  have na := I.hok.fresh ha
  have nd := I.hok.fresh hd
  have kept : ∀ {b : Addr} {z : HO}, H b = some z → upd (upd H dx u) a o b = some z := fun {b z} e => by
    rw [upd_ne (ne_of_none e na), upd_ne (ne_of_none e nd)]
    exact e
  have un : Un X.fs [] H (upd (upd H dx u) a o) s.heap h' := {
    keep := fun b z e _ _ _ => k b z e
    slot := fun b z e _ _ _ => ⟨z.slots, k b z e⟩
    free := fun b z e n _ => by
      have lt := Heap.lt_size e
      rw [upd_ne (Nat.ne_of_lt (Nat.lt_of_lt_of_le lt ha)), upd_ne (Nat.ne_of_lt (Nat.lt_of_lt_of_le lt hd))]
      exact n
    there := fun b z e _ => ⟨z, k b z e⟩
    tups := fun _ _ e => kept e
    frzs := fun _ _ _ e => kept e
    tbls := fun b ps e => ⟨#[], by rw [kept e, Array.append_empty]⟩ }
  refine I.un (t' := tk) un fun b z e => ?_
  by_cases hb : b = a
  · subst hb
    rw [upd_same] at e
    cases e
    exact oa
  · rw [upd_ne hb] at e
    by_cases hbd : b = dx
    · subst hbd
      rw [upd_same] at e
      cases e
      exact ou
    · rw [upd_ne hbd] at e
      exact (I.hok b z e).stay (fun c v _ y => k c v y) (fun _ y => kept y) fun _ _ y => kept y
end Mine

set_option Elab.async false
set_option linter.all false
set_option maxRecDepth 100000
set_option maxHeartbeats 4000000
/-! An error class over Exception, called with values and names: the object is made, then its own __init__ runs. -/
namespace Mine
open PySem PySem.Spec L2
section
variable {prog : Program} {w : World} {M : Model} {A : Around} {E : Value → Shared → Prop} {R : Result → Shared → Prop} {h : Heap} {g : Array GenState} {d : Drawn} {t : Nat} {os : OsState}
variable {nm q : Str} {C N : Addr} {bs bm bmB : List Value} {hdct : Bool} {sn : List Str} {sub : List Value} {ab : Bool} {col : Option Bool} {dd : Option Addr} {k0 k1 k2 k3 k5 : Option Value} {B newId initId : String}
/-- the object alone -/
abbrev bareE (C t : Addr) : Obj := HandSPX.excO C t
theorem newOk_kw (F : ExcBaseFacts B newId initId bmB) (hT : ∀ X : String, bm.contains (.type X) = bmB.contains (.type X)) {rest : List Value} {kw : List (Str × Value)} {Q : Unit → Shared → Prop}
    (hC : h.get? C = some (excClassObj nm q C N bs bm hdct sn sub ab col dd k0 k1 k2 k3 k5 newId)) (z : Q () ⟨h, g, d, t, os⟩) : wpAny M A (checkBuiltinCall newId ⟨.ref C :: rest, kw⟩) Q E ⟨h, g, d, t, os⟩ := by
  have has : (Value.ref C :: bm).contains (.type B) = true := by rw [List.contains_cons, hT, F.hasB, Bool.or_true]
  have st := F.noStar
  simp only [checkBuiltinCall, F.newKind, F.newSplit, F.newRow]
  repeat (first | refine wpAny_loadPart_at hC ?_ | (refine wpAny_isSubtype_exc hC ?_; rw [has]) | refine wpAny_staticBase_exc hC ?_ | refine wpAny_madeBy_exc hC ?_ | simp only [bne_self_eq_false, Bool.false_eq_true, if_false] | wp_step)
  exact z
theorem newRun_kw (F : ExcBaseFacts B newId initId bmB) (hT : ∀ X : String, bm.contains (.type X) = bmB.contains (.type X)) {rest : List Value} {kw : List (Str × Value)}
    (hC : h.get? C = some (excClassObj nm q C N bs bm hdct sn sub ab col dd k0 k1 k2 k3 k5 newId)) (fits : rest.length ≤ sizeLine)
    (z : R (.ok (.ret (.ref (h.objs.size + 1)))) ⟨(h.push (W.kdv_tup rest)).push (bareE C h.objs.size), g, d, t, os⟩) :
    codeAny (model prog w) A (.builtin newId ⟨.ref C :: rest, kw⟩) R ⟨h, g, d, t, os⟩ := by
  have en := F.ends
  have hB : (Value.ref C :: bm).contains (.type B) = true := by rw [List.contains_cons, hT, F.hasB, Bool.or_true]
  have hA : (Value.ref C :: bm).contains (.type "AttributeError") = false := by rw [List.contains_cons, hT, F.noAttr]; rfl
  have hN : (Value.ref C :: bm).contains (.type "NameError") = false := by rw [List.contains_cons, hT, F.noName]; rfl
  refine codeAny_builtinAt F.entry ?_
  unfold Builtin.«BaseException.__new__»
  refine wpAt_bind ?_
  show wpAt _ _ _ (stack >>= _) _ _ _
  refine wpAt_bind (wpAt_stack fun p below => wpAt_of_wpAny ?_)
  wp_walk
  refine wpAt_of_wpAny ?_
  rw [F.owner]
  repeat (first | with_reducible refine wpAny_madeHere_exc F.canon hC ?_ | with_reducible refine wpAny_loadPart_at hC ?_ | (with_reducible refine wpAny_isSubtype_exc hC ?_; first | rw [hB] | rw [hA] | rw [hN]) | wp_step)
  show R _ _
  rw [Heap.size_push]
  exact z
theorem typeCall_kw (F : ExcBaseFacts B newId initId bmB) (hT : ∀ X : String, bm.contains (.type X) = bmB.contains (.type X)) {rest : List Value} {kw : List (Str × Value)} {fI : Addr} {Q : Fin → Shared → Prop}
    (hC : h.get? C = some (excClassObj nm q C N bs bm hdct sn sub ab col dd k0 k1 k2 k3 k5 newId)) (fits : rest.length ≤ sizeLine)
    (hi : W.Looks (model prog w) h (typeLookup (.ref C) "__init__") (some (.ref fI))) (hb : ∀ self, W.Looks (model prog w) h (bindSpecial (.ref fI) self) (.ref fI, [self]))
    (z : codeAny (model prog w) A (.call (.ref fI) ⟨.ref (h.objs.size + 1) :: rest, kw⟩)
      (fun r s' => match r with | .ok (.ret v) => v = .none ∧ Q (.done (.ret (.ref (h.objs.size + 1)))) s' | .ok _ => False | .error e => E e s') ⟨(h.push (W.kdv_tup rest)).push (bareE C h.objs.size), g, d, t, os⟩) :
    wpAny (model prog w) A (Builtin.«type.__call__» ⟨.ref C :: rest, kw⟩) Q E ⟨h, g, d, t, os⟩ := by
  repeat (first | with_reducible refine wpAny_loadPart_at hC ?_ | with_reducible refine wpAny_madeBy_exc hC ?_ | wp_step)
  refine codeAny_call_builtin_code (Code.quiet_builtin _ F.quiet) (newOk_kw F hT hC ?_)
  refine newRun_kw F hT hC fits ?_
  show wpAny _ _ _ _ _ _
  have k : ∀ b o, h.get? b = some o → ((h.push (W.kdv_tup rest)).push (bareE C h.objs.size)).get? b = some o := fun b o e => Heap.get?_push_of_some _ (Heap.get?_push_of_some _ e)
  have hC1 := k _ _ hC
  have he : ((h.push (W.kdv_tup rest)).push (bareE C h.objs.size)).get? (h.objs.size + 1) = some (bareE C h.objs.size) := by heap_get
  have own : (Value.ref C :: bm).contains (.ref C) = true := by simp
  have i1 := hi.keeps k
  have b1 := (hb (.ref (h.objs.size + 1))).keeps k
  unfold isInstance
  repeat (first | with_reducible refine wpAny_loadPart_at he ?_ | (with_reducible refine wpAny_isSubtype_exc hC1 ?_; rw [own]) | wp_step)
  show wpAny _ _ (typeLookup (.ref C) _) _ _ _
  refine i1.at ?_
  refine wpAny_holding (wpAny_bind (b1.at ?_))
  refine wpAny_bind (wpAny_call (codeAny_mono z fun r s' y => ?_))
  rcases r with e | (v | _ | _ | _) <;> first | exact y | exact y.elim | skip
  obtain ⟨rfl, y⟩ := y
  first
    | exact wpAny_pure (wpAny_pure y)
    | (wp_walk; exact y)
theorem call_kw (F : ExcBaseFacts B newId initId bmB) (hT : ∀ X : String, bm.contains (.type X) = bmB.contains (.type X)) {rest : List Value} {kw : List (Str × Value)} {fI : Addr}
    (hC : h.get? C = some (excClassObj nm q C N bs bm hdct sn sub ab col dd k0 k1 k2 k3 k5 newId)) (fits : rest.length ≤ sizeLine)
    (hi : W.Looks (model prog w) h (typeLookup (.ref C) "__init__") (some (.ref fI))) (hb : ∀ self, W.Looks (model prog w) h (bindSpecial (.ref fI) self) (.ref fI, [self]))
    (z : codeAny (model prog w) (A.under (.builtin "type.__call__" ⟨.ref C :: rest, kw⟩)) (.call (.ref fI) ⟨.ref (h.objs.size + 1) :: rest, kw⟩) (W.InitBack (h.objs.size + 1) R) ⟨(h.push (W.kdv_tup rest)).push (bareE C h.objs.size), g, d, t, os⟩) :
    codeAny (model prog w) A (.call (.ref C) ⟨rest, kw⟩) R ⟨h, g, d, t, os⟩ := by
  have f1 := tc_lookup
  have f2 := tc_bind (.ref C)
  have hTy : (⟨h, g, d, t, os⟩ : Shared).TypeIs (.ref C) "type" := ⟨_, hC, rfl⟩
  refine codeAny_of_tree ?_
  show wpAny _ _ (callAny (.ref C) _) _ _ _
  repeat (any_goals (first | assumption | with_reducible refine wpAny_loadPart_at hC ?_ | wp_step))
  refine ⟨rfl, ?_⟩
  refine codeAny_call_builtin_at (Code.quiet_builtin _ (by decide +kernel)) entry_typeCall (wpAny_check_type_call_sub hC (typeCall_kw F hT hC fits hi hb ?_))
  refine codeAny_mono z fun r s' y => ?_
  rcases r with e | (v | _ | _ | _) <;> exact y
end
end Mine

set_option Elab.async false
set_option linter.all false
set_option maxRecDepth 100000
set_option maxHeartbeats 4000000
/-! A def __init__(self, f) that stores f, run on a bare error; errors made by value and by name, and raised. -/
namespace Mine
open PySem PySem.Spec L2
/-- the text of such a def -/
structure Ini (q : Str) (st : Stmt) (f : Str) : Prop where
  body : ∃ q1 q2 q3 q4, defBody st = [.Assign [.Attribute (.Name "self" q1) f q2] (.Name f q3) q4]
  names : (defScope st).names = [(PySem.Str.ofString "self", .local), (f, .local)]
  kind : (defScope st).kind = .function
  co : (defScope st).isCoroutine = false
  gen : (defScope st).isGenerator = false
  b1 : ∀ (kV doc pm : Value) (an : Option Addr) (cdv ct x v : Value), bindArgs (PySem.W.fnOf "__init__" q (defArgs st) (defBody st) (defScope st) .none kV doc pm an cdv ct) ⟨[x, v], []⟩ = pure [(PySem.Str.ofString "self", x), (f, v)]
  b2 : ∀ (kV doc pm : Value) (an : Option Addr) (cdv ct x v : Value), bindArgs (PySem.W.fnOf "__init__" q (defArgs st) (defBody st) (defScope st) .none kV doc pm an cdv ct) ⟨[x], [(f, v)]⟩ = pure [(PySem.Str.ofString "self", x), (f, v)]
  ne : (f == (PySem.Str.ofString "self")) = false
  db : (f == (PySem.Str.ofString "__debug__")) = false
/-- an error class with such an __init__, its field f -/
structure ErrF (K : PySem.W.Frag) (mg : Str → Option Value) (x f : Str) (C fI : Addr) : Prop extends ErrA K C where
  g : mg x = some (.ref C)
  new : PySem.W.excInitIn K C chain "Exception.__new__" = true
  over : PySem.W.excOver K C chain = true
  sa : PySem.W.findIn K (.ref C) "__setattr__" = some (some (.builtin "object.__setattr__"))
  tk : PySem.W.takerIn K C f = some none
  no : PySem.W.findIn K (.ref C) f = some none
  ini : PySem.W.findIn K (.ref C) "__init__" = some (some (.ref fI))
  tI : PySem.W.typeIn K (.ref fI) = some (.type "function")
  txt : ∃ (q : Str) (st : Stmt) (fd : FuncData), Fun K "__init__" q st fI fd ∧ Ini q st f
/-- an error class without -/
structure ErrN (K : PySem.W.Frag) (mg : Str → Option Value) (x : Str) (C : Addr) : Prop extends ErrA K C where
  g : mg x = some (.ref C)
  new : PySem.W.excIn K C chain "Exception.__new__" = true

section
variable {prog : Program} {w : World} {A : Around} {E : Value → Shared → Prop} {R : Result → Shared → Prop} {K : PySem.W.Frag} {mg : Str → Option Value} {x f : Str} {C fI : Addr}
/-- an error object, dict and all -/
abbrev fullE (C t dx : Addr) : Obj := { cls := .ref C, dict := some dx, data := .fields #[.ref t, .none, .none, .none, .bool false, .none] }
/-- what the call of __init__ leaves -/
structure Stored (h h' : Heap) (e C t dx : Addr) (f : Str) (v : Value) : Prop where
  keep : ∀ b o, b ≠ e → h.get? b = some o → h'.get? b = some o
  obj : h'.get? e = some (fullE C t dx)
  big : h.objs.size ≤ dx
  ne : dx ≠ e
  ns : h'.Ns1 dx (fun y => if y = f then some v else none)
theorem store_bare (T : ErrF K mg x f C fI) {e t : Addr} {v : Value} {tk : Tok} {s : Shared} (X : K.In s.heap) (he : s.heap.get? e = some (bareE C t))
    (z : ∀ h' tk' dx, Stored s.heap h' e C t dx f v → R (.ok (.ret .none)) { s with heap := h', toks := tk' }) :
    codeAny (model prog w) A (.call (.builtin "object.__setattr__") ⟨[.ref e, .str f tk, v], []⟩) R s := by
  obtain ⟨hp, g, d, tt, os⟩ := s
  have he' : hp.get? e = some (bareE C t) := he
  have X' : K.In hp := X
  have J : PySem.W.InstAt hp e (bareE C t) C none := ⟨he', rfl, rfl, trivial⟩
  have ne : e ≠ hp.objs.size := Nat.ne_of_lt (Heap.lt_size he')
  obtain ⟨cd, hc, hm⟩ := PySem.W.any_some T.hd
  have hcls : PySem.W.Looks (model prog w) hp (classData C) cd := PySem.W.looks_clsIn X' hc
  refine PySem.W.osa_openX (s := ⟨hp, g, d, tt, os⟩) (od := none) PySem.F.store_Exception X J T.over T.tk fun b => ?_
  show wpAny _ _ (Builtin.ObjectAttr.storeInOwnDict (.ref e) (.ref C) (.str f tk) f v b) _ _ _
  obtain ⟨nm, bs, mro, ns, qn, hdd, sn, sb, ab, col, del⟩ := cd
  dsimp only at hm
  subst hm
  have first : hp.get? e = some (bareE C t) → ((hp.push { cls := .type "dict", data := .dict #[] }).update e fun o => { o with dict := some hp.objs.size }).Ns hp.objs.size fun _ => none := fun _ =>
    ⟨_, #[], _, (Heap.get?_update_ne _ _ _ _ ne.symm).trans (Heap.get?_push_at rfl rfl), rfl, fun y hy => absurd hy (by simp), fun _ => rfl⟩
  have last : ∀ (h' : Heap) (tk' : Nat), h'.Ns1 hp.objs.size (fun y => if y = f then some v else none) → Heap.SameBut hp.objs.size ((hp.push { cls := .type "dict", data := .dict #[] }).update e fun o => { o with dict := some hp.objs.size }) h' →
      R (.ok (.ret .none)) ⟨h', g, d, tk', os⟩ := fun h' tk' hn hs => by
    have e1 : (hp.push { cls := .type "dict", data := .dict #[] }).get? e = some (bareE C t) := Heap.get?_push_of_some _ he'
    refine z h' tk' hp.objs.size ⟨fun b o hb ho => ?_, ?_, Nat.le_refl _, ne.symm, hn⟩
    · exact (hs.2 b (Nat.ne_of_lt (Heap.lt_size ho))).trans ((Heap.get?_update_ne _ _ _ _ hb).trans (Heap.get?_push_of_some _ ho))
    · exact (hs.2 e ne).trans (Heap.get?_update_self _ e1 rfl)
  unfold Builtin.ObjectAttr.storeInOwnDict Builtin.ObjectAttr.ownDictForStores
  cases b
  all_goals
    repeat (first | with_reducible refine HandSPX.store_in_new ?_ ?_ | with_reducible refine wpAny_loadPart_at he' ?_ | with_reducible refine hcls.at ?_ | wp_step)
  all_goals first | exact first he' | exact last
theorem find_loc {P : Shared → Prop} {s : Shared} {nm q : Str} {sc : Scope} {L a : Addr} {cd : Value} {m : Str → Option Value} {y : Str} {pos : Pos} {v : Value} {Q : Value → Shared → Prop} (hn : s.heap.Ns L m) (hv : m y = some v) (z : Q v s)
    (hk : sc.kind = .function) (hl : sc.names.lookup y = some .local) (hd : (y == (PySem.Str.ofString "__debug__")) = false) :
    wpAny (model prog w) A (eval (.Name y pos) (PyProof.Rows.envOfC q sc L a cd)) Q E s := wpAny_Name (wpAny_loadName_local hk hl hn hv z) hd
/-- the call of __init__ on a bare error -/
theorem init_run (T : ErrF K mg x f C fI) {e t : Addr} {v : Value} {args : Args} {s : Shared} (X : K.In s.heap) (lim : s.heap.NoLimit) (he : s.heap.get? e = some (bareE C t)) (room : A.depth < recursionLimit)
    (hargs : args = ⟨[.ref e, v], []⟩ ∨ args = ⟨[.ref e], [(f, v)]⟩)
    (z : ∀ h' tk' dx, Stored s.heap h' e C t dx f v → R (.ok (.ret .none)) { s with heap := h', toks := tk' }) :
    codeAny (model prog w) A (.call (.ref fI) args) R s := by
  obtain ⟨q, st, fd, F, T1⟩ := T.txt
  obtain ⟨oc, od, kV, doc, pm, an, cdv, ct, osl, rfl, lk, hcd⟩ := F.ex
  obtain ⟨q1, q2, q3, q4, hb⟩ := T1.body
  have lS : (defScope st).names.lookup (PySem.Str.ofString "self") = some .local := by rw [T1.names]; rfl
  have lF : (defScope st).names.lookup f = some .local := by
    rw [T1.names]
    simp only [List.lookup, T1.ne]
    simp
  have bind : BindsTo s (PySem.W.fnOf "__init__" q (defArgs st) (defBody st) (defScope st) .none kV doc pm an cdv ct) args [(PySem.Str.ofString "self", .ref e), (f, v)] := by
    rcases hargs with rfl | rfl
    · exact BindsTo.of_eq (T1.b1 ..)
    · exact BindsTo.of_eq (T1.b2 ..)
  refine Att.call_fn X lim lk hcd room bind ?_ (fun s1 IC => ?_) T1.co T1.gen T1.kind
  · simp only [List.all_cons, List.all_nil, lS, lF]
    rfl
  · obtain ⟨h1, tk1, rfl⟩ := IC.toInCall.same
    have k : ∀ b o, s.heap.get? b = some o → h1.get? b = some o := IC.toInCall.keep
    have hn := IC.toInCall.ns
    have lt := Heap.lt_size he
    have mS : bindL (PyProof.Rows.envOfC q (defScope st) s.heap.objs.size fI cdv).kindOf (([PySem.Str.ofString "self", f] : List Str).zip [Value.ref e, v]) (fun _ => none) (PySem.Str.ofString "self") = some (.ref e) := by
      refine bindL_get (P := [PySem.Str.ofString "self", f]) (vs := [.ref e, v]) (i := 0) ?_ rfl rfl lS
      exact List.nodup_cons.mpr ⟨fun q => by
        have e2 : PySem.Str.ofString "self" = f := by simpa using q
        have := T1.ne
        rw [← e2] at this
        simp at this, List.nodup_cons.mpr ⟨by simp, List.nodup_nil⟩⟩
    have mF : bindL (PyProof.Rows.envOfC q (defScope st) s.heap.objs.size fI cdv).kindOf (([PySem.Str.ofString "self", f] : List Str).zip [Value.ref e, v]) (fun _ => none) f = some v := by
      refine bindL_get (P := [PySem.Str.ofString "self", f]) (vs := [.ref e, v]) (i := 1) ?_ rfl rfl lF
      exact List.nodup_cons.mpr ⟨fun q => by
        have e2 : PySem.Str.ofString "self" = f := by simpa using q
        have := T1.ne
        rw [← e2] at this
        simp at this, List.nodup_cons.mpr ⟨by simp, List.nodup_nil⟩⟩
    rw [hb]
    show wpAny _ _ (execs _ _) _ _ _
    refine wpAny_execs_cons (plainObj_wpAny_Assign_Attribute ?_)
    refine find_loc (P := fun _ => True) (nm := "__init__") hn mF (find_loc (P := fun _ => True) (nm := "__init__") hn mS ?_ T1.kind lS (by decide)) T1.kind lF T1.db
    refine PySem.W.set_plain (X.keeps k) (ox := bareE C t) (od := none) ⟨k _ _ he, rfl, rfl, trivial⟩ T.sa ?_
    refine store_bare T (s := { s with heap := h1, toks := tk1 + 1 }) (X.keeps k) (k _ _ he) fun h3 tk3 dx S => ?_
    show wpAny _ _ (execs _ _) _ _ _
    have z1 : s.heap.objs.size < h1.objs.size := hn.lt
    exact wpAny_execs_nil (z h3 tk3 dx ⟨fun b o hb2 e2 => S.keep b o hb2 (k b o e2), S.obj, Nat.le_of_lt (Nat.lt_of_lt_of_le z1 S.big), S.ne, S.ns⟩)
end
end Mine

set_option Elab.async false
set_option linter.all false
set_option maxRecDepth 100000
set_option maxHeartbeats 4000000
/-! Errors made as values (by position, by name, without anything), and raised. -/
namespace Mine
open PySem PySem.Spec L2
/-- a new error e with its dict dx: all that stood stands -/
structure MadeE (h h' : Heap) (e C t dx : Addr) (f : Str) (v : Value) : Prop where
  keep : ∀ b o, h.get? b = some o → h'.get? b = some o
  new : h.objs.size ≤ e
  obj : h'.get? e = some (fullE C t dx)
  big : h.objs.size ≤ dx
  ne : dx ≠ e
  ns : h'.Ns1 dx (fun y => if y = f then some v else none)
section
variable {prog : Program} {w : World} {A : Around} {E : Value → Shared → Prop} {R : Result → Shared → Prop} {K : PySem.W.Frag} {mg : Str → Option Value} {x f : Str} {C fI : Addr}
theorem call_err (T : ErrF K mg x f C fI) {v : Value} {us : List Value} {kw : List (Str × Value)} {s : Shared} (X : K.In s.heap) (lim : s.heap.NoLimit) (room : A.depth + 1 < recursionLimit) (ha : (us = [v] ∧ kw = []) ∨ (us = [] ∧ kw = [(f, v)]))
    (z : ∀ h' tk e t dx, MadeE s.heap h' e C t dx f v → R (.ok (.ret (.ref e))) { s with heap := h', toks := tk }) :
    codeAny (model prog w) A (.call (.ref C) ⟨us, kw⟩) R s := by
  obtain ⟨nm, N, qn, bs, bm, hdct, sn, sub, ab, col, dd, k0, k1, k2, k3, k5, hC, hT⟩ := PySem.W.excInit_of X T.new
  obtain ⟨hp, g, d, tk, os⟩ := s
  have hs : us.length ≤ sizeLine := by
    rw [sizeLine_eq]
    rcases ha with ⟨rfl, _⟩ | ⟨rfl, _⟩ <;> simp
  have k : ∀ b o, hp.get? b = some o → ((hp.push (PySem.W.kdv_tup us)).push (bareE C hp.objs.size)).get? b = some o := fun b o e => Heap.get?_push_of_some _ (Heap.get?_push_of_some _ e)
  have he : ((hp.push (PySem.W.kdv_tup us)).push (bareE C hp.objs.size)).get? (hp.objs.size + 1) = some (bareE C hp.objs.size) := by heap_get
  have Xh : K.In hp := X
  refine call_kw PySem.F.excBase_Exception hT hC hs (PySem.W.looks_findIn Xh T.ini) (fun self => PySem.W.bind_fn Xh self T.tI) ?_
  refine init_run T (v := v) (s := ⟨_, g, d, tk, os⟩) (Xh.keeps k) (PySem.Heap.NoLimit.keeps lim k) he ?_ ?_ fun h' tk' dx S => ?_
  · show A.depth + 1 < recursionLimit
    exact room
  · rcases ha with ⟨rfl, rfl⟩ | ⟨rfl, rfl⟩
    · exact .inl rfl
    · exact .inr rfl
  · have big : hp.objs.size + 1 + 1 ≤ dx := by
      have q := S.big
      simp only [Heap.size_push] at q
      exact q
    exact ⟨rfl, z h' tk' (hp.objs.size + 1) hp.objs.size dx ⟨fun b o e => S.keep b o (Nat.ne_of_lt (Nat.lt_succ_of_lt (Heap.lt_size e))) (k b o e), Nat.le_succ _, S.obj, Nat.le_trans (Nat.le_trans (Nat.le_succ _) (Nat.le_succ _)) big, S.ne, S.ns⟩⟩
end
section
variable {X : Cx} {x f : Str} {C fI : Addr} {e : Expr} {te : TE} {p pos kpos : Pos}
/-- the heap with the new error -/
def eUp (H : Hp) (a dx C : Addr) (f : Str) (v : V) : Hp := upd (upd H dx (exd dx [(f, v)])) a (exo a C (some dx))
theorem eUp_at {H : Hp} {a dx C : Addr} {f : Str} {v : V} (ne : dx ≠ a) : EAt (eUp H a dx C f v) a C (some (dx, [(f, v)])) := ⟨upd_same, by unfold eUp; rw [upd_ne ne, upd_same]⟩
theorem eUp_ne {H : Hp} {a dx C b : Addr} {f : Str} {v : V} (h1 : b ≠ a) (h2 : b ≠ dx) : eUp H a dx C f v b = H b := by unfold eUp; rw [upd_ne h1, upd_ne h2]
def tErr (C : Addr) (f : Str) (ta : TA) : TE := fun σ H Q => ta σ H fun vs H1 => ∃ v, vs = [v] ∧ ∀ a dx, H1 a = none → H1 dx = none → dx ≠ a → Q (.ref a) (eUp H1 a dx C f v)
theorem err_back {pins : List (Addr × Obj)} {σ : L2.St} {H1 : Hp} {s1 : Shared} {v : V} {u : Value} {Q : VK} (T : ErrF X.K X.mg x f C fI) (I1 : L2.Inv X pins σ H1 s1) (rv : L2.RelV v u) (q : ∀ a dx, H1 a = none → H1 dx = none → dx ≠ a → Q (.ref a) (eUp H1 a dx C f v))
    (room : X.A.depth + 1 < recursionLimit) {us : List Value} {kw : List (Str × Value)} (ha : (us = [u] ∧ kw = []) ∨ (us = [] ∧ kw = [(f, u)])) : wpAny (model X.prog X.w) X.A (call (.ref C) us kw) (L2.EP X pins σ Q) X.xe s1 := by
  refine wpAny_call (call_err T I1.kIn I1.nolimit room ha fun h' tk a t dx M => ?_)
  refine ⟨.ref a, eUp H1 a dx C f v, inv_two (o := exo a C (some dx)) (u := exd dx [(f, v)]) I1 M.keep M.new M.big M.ne (exo_ok M.obj) (exd_ok M.ns ?_), rfl, q a dx (I1.hok.fresh M.new) (I1.hok.fresh M.big) M.ne⟩
  exact relO_put (fs := []) rv fun g => True.intro
theorem pe_err {ta : TA} (T : ErrF X.K X.mg x f C fI) (room : X.A.depth + 1 < recursionLimit) (ha : PA X [e] ta) (hg : Gl X x) (hdb : (x == (PySem.Str.ofString "__debug__")) = false := by decide)
    (hs : starEach [e] X.env = (false, eval e X.env) :: starEach [] X.env := by rfl) (hpl : (backTo pos (starEach [] X.env)).any (·.1) = false := by rfl) : PE X (.Call (.Name x p) [e] [] pos) (tErr C f ta) := by
  refine ⟨fun pins s σ H Q I h => ?_⟩
  refine wpAny_Call_Name_kw (ld_glob I hg T.g ?_ hdb)
  refine PySem.W.callWith_K (h₀ := X.base) I.ok.mod.kin T.kp (thn (ha.run pos pins s σ H _ I h) fun us s1 hh => ?_) hs hpl
  obtain ⟨vs, H1, I1, r1, v, ev, q⟩ := hh
  subst ev
  refine ⟨I1.kIn, ?_⟩
  cases r1 with
  | cons rv rn =>
    cases rn
    exact err_back T I1 rv q room (.inl ⟨rfl, rfl⟩)
theorem pe_errK {ta : TA} (T : ErrF X.K X.mg x f C fI) (room : X.A.depth + 1 < recursionLimit) (ha : PK X [⟨some f, e, kpos⟩] ta) (hg : Gl X x) (hdb : (x == (PySem.Str.ofString "__debug__")) = false := by decide)
    (hall : (backToKw pos (keywordEach [⟨some f, e, kpos⟩] X.env)).all (·.1.isSome) = true := by rfl) (hks : (backToKw pos (keywordEach [⟨some f, e, kpos⟩] X.env)).filterMap (·.1) = [f] := by rfl)
    (hpl : ((backTo pos (starEach [] X.env)).any (·.1) || (backToKw pos (keywordEach [⟨some f, e, kpos⟩] X.env)).any (·.1.isNone)) = false := by rfl) : PE X (.Call (.Name x p) [] [⟨some f, e, kpos⟩] pos) (tErr C f ta) := by
  refine ⟨fun pins s σ H Q I h => ?_⟩
  refine wpAny_Call_Name_kw (ld_glob I hg T.g ?_ hdb)
  refine PySem.W.callWith_KW0 (h₀ := X.base) I.ok.mod.kin T.kp hall (thn (ha.run pos pins s σ H _ I h) fun us s1 hh => ?_) hpl
  obtain ⟨vs, H1, I1, r1, v, ev, q⟩ := hh
  subst ev
  refine ⟨I1.kIn, ?_⟩
  cases r1 with
  | cons rv rn =>
    cases rn
    rw [hks]
    exact err_back T I1 rv q room (.inr ⟨rfl, rfl⟩)
/-- C(), a class without an __init__ of its own -/
def tErr0 (C : Addr) : TE := fun σ H Q => ∀ a, H a = none → Q (.ref a) (upd H a (exo a C none))
theorem pe_err0 (T : ErrN X.K X.mg x C) (hg : Gl X x) (hdb : (x == (PySem.Str.ofString "__debug__")) = false := by decide) : PE X (.Call (.Name x p) [] [] pos) (tErr0 C) := by
  refine ⟨fun pins s σ H Q I h => ?_⟩
  refine wpAny_Call_Name_kw (ld_glob I hg T.g ?_ hdb)
  refine PySem.W.callWith_K0 I.kIn T.kp ?_
  show wpAny _ _ (call (.ref C) []) _ _ _
  obtain ⟨bm, N, nm, qn, bs, hdct, sn, sub, ab, col, dd, k0, k1, k2, k3, k5, mN, hC, hN, hni, O⟩ := exc_obj I.kIn T.new
  refine wpAny_call_exc_subT PySem.F.excBase_Exception O hC hN hni (fun h' a M => ?_) (by show 0 ≤ sizeLine; exact Nat.zero_le _)
  have hn : H a = none := I.hok.gone M.new
  obtain ⟨t, ht, _, _⟩ := M.there
  exact ⟨.ref a, upd H a (exo a C none), I.laidN M.keeps M.new hn (exo_ok ht), rfl, h a hn⟩
/-! raised: nothing of the error is told but its class -/
def tRais (C : Addr) (ta : TA) : L2.St → Hp → L2.XK → Prop := fun σ H Q => ta σ H fun vs H1 => ∃ v, vs = [v] ∧ ∀ d, Q (.ref C) (some d) H1
theorem pm_err {ta : TA} (T : ErrF X.K X.mg x f C fI) (room : X.A.depth + 1 < recursionLimit) (ha : PA X [e] ta) (hg : Gl X x) (hdb : (x == (PySem.Str.ofString "__debug__")) = false := by decide)
    (hs : starEach [e] X.env = (false, eval e X.env) :: starEach [] X.env := by rfl) (hpl : (backTo pos (starEach [] X.env)).any (·.1) = false := by rfl) : L2.PMk X (.Call (.Name x p) [e] [] pos) (tRais C ta) := by
  intro pins s σ H Q I h
  refine wpAny_Call_Name_kw (ld_glob I hg T.g ?_ hdb)
  refine PySem.W.callWith_K (h₀ := X.base) I.ok.mod.kin T.kp (thn (ha.run pos pins s σ H _ I h) fun us s1 hh => ?_) hs hpl
  obtain ⟨vs, H1, I1, r1, v, ev, q⟩ := hh
  subst ev
  refine ⟨I1.kIn, ?_⟩
  cases r1 with
  | cons rv rn =>
    cases rn
    refine wpAny_call (call_err T I1.kIn I1.nolimit room (.inl ⟨rfl, rfl⟩) fun h' tk a t dx M => ?_)
    have na : s1.heap.get? a = none := by
      cases z : s1.heap.get? a with
      | none => rfl
      | some o => exact absurd (Nat.lt_of_lt_of_le (Heap.lt_size z) M.new) (Nat.lt_irrefl _)
    exact ⟨a, _, _, s1, H1, .ref C, some dx, rfl, I1, M.keep, na, M.obj, ⟨rfl, rfl⟩, rfl, rfl, I1.hok.fresh M.new, rfl, I1.bare, L2.raises_own T.su T.ty, q dx⟩
theorem pm_err0 (T : ErrN X.K X.mg x C) (hg : Gl X x) (hdb : (x == (PySem.Str.ofString "__debug__")) = false := by decide) : L2.PMk X (.Call (.Name x p) [] [] pos) (fun _ H Q => Q (.ref C) none H) := by
  intro pins s σ H Q I h
  refine wpAny_Call_Name_kw (ld_glob I hg T.g ?_ hdb)
  refine PySem.W.callWith_K0 I.kIn T.kp ?_
  show wpAny _ _ (call (.ref C) []) _ _ _
  obtain ⟨bm, N, nm, qn, bs, hdct, sn, sub, ab, col, dd, k0, k1, k2, k3, k5, mN, hC, hN, hni, O⟩ := exc_obj I.kIn T.new
  refine wpAny_call_exc_subT PySem.F.excBase_Exception O hC hN hni (fun h' a M => ?_) (by show 0 ≤ sizeLine; exact Nat.zero_le _)
  exact L2.mk_of I M (L2.raises_own T.su T.ty) h (I.hok.gone M.new)
end
end Mine

set_option Elab.async false
set_option linter.all false
set_option maxRecDepth 100000
set_option maxHeartbeats 4000000
/-! Data of lists, tuples and small dicts as the abstract heap holds it, and its text. -/
namespace Mine
open PySem PySem.Spec L2
mutual
inductive DK (H : Hp) : V → PyData → Prop
  | non : DK H .non .none
  | bl (b : Bool) : DK H (.bl b) (.bool b)
  | int (i : Int) : DK H (.int i) (.int i)
  | str (x : Str) : DK H (.str x) (.str x)
  | lst {a : Addr} {xs : List V} {ds : List PyData} : H a = some (.lst xs) → DKs H xs ds → DK H (.ref a) (.list ds)
  | tup {a : Addr} {xs : List V} {ds : List PyData} : H a = some (.tup xs) → DKs H xs ds → DK H (.ref a) (.tuple ds)
  | dct0 {a : Addr} : H a = some (.dK []) → DK H (.ref a) (.dict [])
  | dct1 {a : Addr} {k : Str} {v : V} {d : PyData} : H a = some (.dK [(Sum.inr k, v)]) → DK H v d → DK H (.ref a) (.dict [(.str k, d)])
inductive DKs (H : Hp) : List V → List PyData → Prop
  | nil : DKs H [] []
  | cons {v : V} {vs : List V} {d : PyData} {ds : List PyData} : DK H v d → DKs H vs ds → DKs H (v :: vs) (d :: ds)
end
mutual
theorem DK.keeps {H H' : Hp} (k : ∀ b o, H b = some o → H' b = some o) : ∀ (d : PyData) (v : V), DK H v d → DK H' v d
  | .none, _, h => by cases h; exact .non
  | .bool b, _, h => by cases h; exact .bl b
  | .int i, _, h => by cases h; exact .int i
  | .str x, _, h => by cases h; exact .str x
  | .list ds, _, h => by
    cases h with
    | lst e r => exact .lst (k _ _ e) (DKs.keeps k ds _ r)
  | .tuple ds, _, h => by
    cases h with
    | tup e r => exact .tup (k _ _ e) (DKs.keeps k ds _ r)
  | .dict [], _, h => by
    cases h with
    | dct0 e => exact .dct0 (k _ _ e)
  | .dict [(kk, d)], _, h => by
    cases h with
    | dct1 e r => exact .dct1 (k _ _ e) (DK.keeps k d _ r)
  | .dict (_ :: _ :: _), _, h => by cases h
theorem DKs.keeps {H H' : Hp} (k : ∀ b o, H b = some o → H' b = some o) : ∀ (ds : List PyData) (vs : List V), DKs H vs ds → DKs H' vs ds
  | [], _, h => by cases h; exact .nil
  | d :: ds, _, h => by
    cases h with
    | cons h1 h2 => exact .cons (DK.keeps k d _ h1) (DKs.keeps k ds _ h2)
end
theorem DKs.len {H : Hp} : ∀ {vs : List V} {ds : List PyData}, DKs H vs ds → vs.length = ds.length
  | _, _, .nil => rfl
  | _, _, .cons _ r => by rw [List.length_cons, List.length_cons, r.len]
theorem DKs.snoc {H : Hp} {v : V} {d : PyData} (h : DK H v d) : ∀ {vs : List V} {ds : List PyData}, DKs H vs ds → DKs H (vs ++ [v]) (ds ++ [d])
  | _, _, .nil => .cons h .nil
  | _, _, .cons a r => .cons a (r.snoc h)

/-- what is asked of data that is shown: numbers of moderate size, a text of at most n signs, at most l deep -/
structure Shows (n l : Nat) (d : PyData) : Prop where
  ok : d.showable = true
  len : d.shown.length ≤ n
  dep : d.depth ≤ l

section
variable {prog : Program} {w : World} {X : Cx} {pins : List (Addr × Obj)} {σ : L2.St} {H : Hp} {s : Shared}
/-- reading, and the text under way -/
def Rk (prog : Program) (w : World) (h : Heap) (u : Value) (d : PyData) : Prop := (∃ as, Reads h u d as) ∧ ∃ bs, ReadAtMost h d.depth bs ∧ ReprK prog w bs h d.depth u d.shown
def Rks (prog : Program) (w : World) (h : Heap) (us : List Value) (ds : List PyData) : Prop := (∃ as, ReadsAll h us ds as) ∧ ∃ bs, ReadAtMost h (PyData.depthAll ds) bs ∧ ReprAllK prog w bs h (PyData.depthAll ds) us (PyData.shownAll ds)
theorem Rk.leaf {h : Heap} {u : Value} {d : PyData} {as : List Addr} (r : Reads h u d as) (i : ReprIs prog w u d.shown) : Rk prog w h u d := ⟨⟨_, r⟩, [], (fun _ z => nomatch z), .of_is i _ _ _⟩
theorem Rks.cons {h : Heap} {u : Value} {us : List Value} {d : PyData} {ds : List PyData} (a : Rk prog w h u d) (b : Rks prog w h us ds) : Rks prog w h (u :: us) (d :: ds) := by
  obtain ⟨⟨as, r1⟩, b1, m1, k1⟩ := a
  obtain ⟨⟨cs, r2⟩, b2, m2, k2⟩ := b
  refine ⟨⟨_, .cons r1 r2⟩, b1 ++ b2, ?_, ?_⟩
  · simp only [PyData.depthAll]
    exact (m1.mono (Nat.le_max_left _ _)).append (m2.mono (Nat.le_max_right _ _))
  · simp only [PyData.depthAll, PyData.shownAll]
    exact .cons ((k1.more fun _ z => List.mem_append_left _ z).level_le (Nat.le_max_left _ _)) (k2.more_le (fun _ z => List.mem_append_right _ z) (Nat.le_max_right _ _))
theorem Rk.list {h : Heap} {a : Addr} {o : Obj} {us : List Value} {n : Nat} {ds : List PyData} (h1 : h.get? a = some o) (h2 : o.cls = .type "list") (h3 : o.data = .seq us.toArray n) (r : Rks prog w h us ds) : Rk prog w h (.ref a) (.list ds) := by
  obtain ⟨⟨as, r⟩, bs, m, k⟩ := r
  have rd : Reads h (.ref a) (.list ds) (a :: as) := .list h1 h2 h3 r
  have out : a ∉ bs := not_mem_of_deeper rd (by simp only [PyData.depth]; omega) m
  refine ⟨⟨_, rd⟩, a :: bs, ReadAtMost.cons rd (by simp only [PyData.depth]; omega) m, ?_⟩
  simp only [PyData.depth, PyData.shown]
  cases us with
  | nil =>
    cases r
    simp only [PyData.shownAll, listText_nil]
    exact ReprK.listEmpty h1 h2 h3
  | cons x l => exact ReprK.list h1 h2 h3 out (by simpa using k.length_eq) fun i y e => k.item i y (by simpa using e)
theorem Rk.tuple {h : Heap} {a : Addr} {o : Obj} {us : List Value} {n : Nat} {ds : List PyData} (h1 : h.get? a = some o) (h2 : o.cls = .type "tuple") (h3 : o.data = .seq us.toArray n) (r : Rks prog w h us ds) : Rk prog w h (.ref a) (.tuple ds) := by
  obtain ⟨⟨as, r⟩, bs, m, k⟩ := r
  have rd : Reads h (.ref a) (.tuple ds) as := .tuple h1 h2 h3 r
  have out : a ∉ bs := not_mem_of_deeper rd (by simp only [PyData.depth]; omega) m
  refine ⟨⟨_, rd⟩, a :: bs, ReadAtMost.cons rd (by simp only [PyData.depth]; omega) m, ?_⟩
  simp only [PyData.depth, PyData.shown]
  exact ReprK.tuple h1 h2 h3 out k
theorem Rk.dict {h : Heap} {a : Addr} {o : Obj} {es : Array DictEntry} {n : Nat} {kvs : List (PyData × PyData)} (h1 : h.get? a = some o) (h2 : o.cls = .type "dict") (h3 : o.data = .dict es n) (h4 : (a == sysModules) = false)
    (rk : Rks prog w h (es.toList.map (·.key)) (kvs.map (·.1))) (rv : Rks prog w h (es.toList.map (·.val)) (kvs.map (·.2))) : Rk prog w h (.ref a) (.dict kvs) := by
  obtain ⟨⟨as, r1⟩, b1, m1, k1⟩ := rk
  obtain ⟨⟨cs, r2⟩, b2, m2, k2⟩ := rv
  have rd : Reads h (.ref a) (.dict kvs) _ := .dict h1 h2 h3 r1 r2
  have m : ReadAtMost h (PyData.depthKv kvs) (b1 ++ b2) := (m1.mono (PyData.depthAll_keys_le kvs)).append (m2.mono (PyData.depthAll_vals_le kvs))
  have out : a ∉ b1 ++ b2 := not_mem_of_deeper rd (by simp only [PyData.depth]; omega) m
  refine ⟨⟨_, rd⟩, a :: (b1 ++ b2), ReadAtMost.cons rd (by simp only [PyData.depth]; omega) m, ?_⟩
  simp only [PyData.depth, PyData.shown, PyData.shownKv_eq]
  exact ReprK.dict h1 h2 h3 h4 out (ReprEntriesK.of_two es.toList _ _ (k1.more_le (fun _ z => List.mem_append_left _ z) (PyData.depthAll_keys_le kvs)) (k2.more_le (fun _ z => List.mem_append_right _ z) (PyData.depthAll_vals_le kvs)))
mutual
theorem DK.rk (I : L2.Inv X pins σ H s) : ∀ (d : PyData) (v : V) (u : Value), DK H v d → L2.RelV v u → d.showable = true → d.shown.length ≤ sizeLine → Rk X.prog X.w s.heap u d
  | .none, _, _, h, r, _, _ => by
    cases h; cases r
    exact Rk.leaf .none (by simp only [PyData.shown]; exact ReprIs.none)
  | .bool b, _, _, h, r, _, _ => by
    cases h; cases r
    exact Rk.leaf (.bool b) (by simp only [PyData.shown]; exact ReprIs.bool b)
  | .int i, _, _, h, r, ok, _ => by
    cases h
    obtain ⟨t, rfl⟩ := r
    exact Rk.leaf (.int i t) (by simp only [PyData.shown]; exact ReprIs.int t (by simpa [PyData.showable] using ok))
  | .str x, _, _, h, r, _, hz => by
    cases h
    obtain ⟨t, rfl⟩ := r
    exact Rk.leaf (.str x t) (by simp only [PyData.shown]; exact ReprIs.str x t (by simpa only [PyData.shown] using hz))
  | .list ds, _, _, h, r, ok, hz => by
    cases h with
    | lst e r' =>
      cases r
      obtain ⟨_, its, n, rv, he⟩ := (show ObjOk X.prog X.w H s.heap _ (.lst _) from I.hok _ _ e)
      have hz' : (listText (PyData.shownAll ds)).length ≤ sizeLine := by simpa only [PyData.shown] using hz
      exact Rk.list he rfl rfl (DKs.rks I ds _ its r' rv (by simpa [PyData.showable] using ok) fun t ht => Nat.le_trans (listText_mem_le ht) hz')
  | .tuple ds, _, _, h, r, ok, hz => by
    cases h with
    | tup e r' =>
      cases r
      obtain ⟨_, its, rv, o, he, hc, n, hd⟩ := (show ObjOk X.prog X.w H s.heap _ (.tup _) from I.hok _ _ e)
      have hz' : (tupleText (PyData.shownAll ds)).length ≤ sizeLine := by simpa only [PyData.shown] using hz
      exact Rk.tuple he hc hd (DKs.rks I ds _ its r' rv (by simpa [PyData.showable] using ok) fun t ht => Nat.le_trans (tupleText_mem_le ht) hz')
  | .dict [], _, _, h, r, _, _ => by
    cases h with
    | dct0 e =>
      cases r
      obtain ⟨_, hs, vs, rel, o, es, ep, he, hx, hd, _, hp, _⟩ := (show ObjOk X.prog X.w H s.heap _ (.dK _) from I.hok _ _ e)
      cases rel
      have e0 : es.toList = [] := by
        cases q : es.toList with
        | nil => rfl
        | cons a b => rw [q] at hp; cases hp
      refine Rk.dict he hx.1 hd hs ?_ ?_
      all_goals
        rw [e0]
        exact ⟨⟨_, .nil⟩, [], (fun _ z => nomatch z), .nil⟩
  | .dict [(kk, d)], _, _, h, r, ok, hz => by
    cases h with
    | @dct1 a k v d e r' =>
      cases r
      obtain ⟨_, hs, vs, rel, o, es, ep, he, hx, hd, _, hp, _⟩ := (show ObjOk X.prog X.w H s.heap _ (.dK _) from I.hok _ _ e)
      have hz' : (dictText (PyData.shownKv [(.str k, d)])).length ≤ sizeLine := by simpa only [PyData.shown] using hz
      have ok' : PyData.showable (.str k) = true ∧ d.showable = true := by simpa [PyData.showable, PyData.showableKv] using ok
      have one : ∀ t ∈ PyData.shownKv [(.str k, d)], t.length ≤ sizeLine := fun t ht => Nat.le_trans (dictText_mem_le ht) hz'
      cases rel with
      | @cons p q _ _ pq rest =>
        cases rest
        obtain ⟨qk, qv⟩ := q
        obtain ⟨e1, rv⟩ := pq
        dsimp only at e1 rv
        subst e1
        obtain ⟨en, e0, ek, ev⟩ : ∃ en, es.toList = [en] ∧ keyIs (Sum.inr k) en.key = true ∧ en.val = qv := by
          cases q : es.toList with
          | nil => rw [q] at hp; cases hp
          | cons a b =>
            rw [q] at hp
            cases hp with
            | cons h1 h2 h3 =>
              cases h3
              exact ⟨a, rfl, h1, h2⟩
        obtain ⟨t, ek'⟩ := Value.isStrOf_shape (x := k) (v := en.key) ek
        have z1 : (PyData.shown (.str k)).length ≤ sizeLine := by
          obtain ⟨p, hp, hl⟩ := PyData.shownKv_key_le [(.str k, d)] (PyData.shown (.str k)) (by simp only [List.map_cons, PyData.shownAll]; exact List.mem_cons_self ..)
          exact Nat.le_trans hl (one p hp)
        have z2 : d.shown.length ≤ sizeLine := by
          obtain ⟨p, hp, hl⟩ := PyData.shownKv_val_le [(.str k, d)] d.shown (by simp only [List.map_cons, PyData.shownAll]; exact List.mem_cons_self ..)
          exact Nat.le_trans hl (one p hp)
        refine Rk.dict he hx.1 hd hs ?_ ?_
        · rw [e0]
          show Rks _ _ _ [en.key] [PyData.str k]
          rw [ek']
          exact Rks.cons (Rk.leaf (.str k t) (by simp only [PyData.shown]; exact ReprIs.str k t (by simpa only [PyData.shown] using z1))) ⟨⟨_, .nil⟩, [], (fun _ z => nomatch z), .nil⟩
        · rw [e0]
          show Rks _ _ _ [en.val] [d]
          rw [ev]
          exact Rks.cons (DK.rk I d v qv r' rv ok'.2 z2) ⟨⟨_, .nil⟩, [], (fun _ z => nomatch z), .nil⟩
  | .dict (_ :: _ :: _), _, _, h, _, _, _ => by cases h
theorem DKs.rks (I : L2.Inv X pins σ H s) : ∀ (ds : List PyData) (vs : List V) (us : List Value), DKs H vs ds → L2.Vals vs us → PyData.showableAll ds = true → (∀ t ∈ PyData.shownAll ds, t.length ≤ sizeLine) → Rks X.prog X.w s.heap us ds
  | [], _, _, h, r, _, _ => by
    cases h; cases r
    exact ⟨⟨_, .nil⟩, [], (fun _ z => nomatch z), .nil⟩
  | d :: ds, _, _, h, r, ok, hz => by
    have ok' : d.showable = true ∧ PyData.showableAll ds = true := by simpa [PyData.showableAll] using ok
    cases h with
    | cons h1 h2 =>
      cases r with
      | cons r1 r2 =>
        exact Rks.cons (DK.rk I d _ _ h1 r1 ok'.1 (hz _ (by simp only [PyData.shownAll]; exact List.mem_cons_self ..))) (DKs.rks I ds _ _ h2 r2 ok'.2 fun t ht => hz t (by simp only [PyData.shownAll]; exact List.mem_cons_of_mem _ ht))
end
end
/-- repr of a list -/
def rRepr : List V → Hp → VK → Prop := fun xs H Q => ∃ (a : Addr) (ds : List PyData), xs = [.ref a] ∧ DK H (.ref a) (.list ds) ∧ Shows sizeLine 20 (.list ds) ∧ Q (.str (PyData.shown (.list ds))) H
theorem call_reprD {X : Cx} (hg : X.A.guards = some []) (hu : X.A.units + 40 < cLine) : CallR X (.builtin "repr") rRepr := by
  intro pins s σ H xs us Q I r h
  obtain ⟨a, ds, rfl, hd, S, q⟩ := h
  obtain ⟨u, rfl, rv⟩ := vals1 r
  cases (show u = Value.ref a from rv)
  have rk : Rk X.prog X.w s.heap (.ref a) (.list ds) := DK.rk I (.list ds) (.ref a) (.ref a) hd rfl S.ok S.len
  cases hd with
  | lst e r' =>
    obtain ⟨_, its, n, rvs, he⟩ := (show ObjOk X.prog X.w H s.heap _ (.lst _) from I.hok _ _ e)
    have hz' : (listText (PyData.shownAll ds)).length ≤ sizeLine := by simpa only [PyData.shown] using S.len
    have rks := DKs.rks I ds _ its r' rvs (by simpa [PyData.showable] using S.ok) fun t ht => Nat.le_trans (listText_mem_le ht) hz'
    obtain ⟨⟨as, ra⟩, bs, m, k⟩ := rks
    have rd : Reads s.heap (.ref a) (.list ds) (a :: as) := .list he rfl rfl ra
    have out : a ∉ bs := not_mem_of_deeper rd (by simp only [PyData.depth]; omega) m
    have dep : PyData.depthAll ds + 1 ≤ 20 := by simpa only [PyData.depth] using S.dep
    have fin : ∀ h' u tk, (∀ b o, s.heap.get? b = some o → h'.get? b = some o) → L2.EP X pins σ Q (.str (PyData.shown (.list ds)) u) { s with heap := h', toks := tk } := fun h' u tk kp => ⟨.str _, H, I.kept kp, ⟨_, rfl⟩, q⟩
    refine call_repr_slot (by omega) ⟨_, he, rfl⟩ PySem.F.slot_list_repr.toG ?_
    cases its with
    | nil =>
      cases ra
      refine call_list_repr_empty ⟨_, he, rfl⟩ he rfl ⟨_, _, rfl, ?_⟩
      have e0 : PyData.shown (.list []) = ("[]" : Str) := by simp only [PyData.shown, PyData.shownAll, listText_nil]
      rw [← e0]
      exact fin _ _ _ fun _ _ z => z
    | cons x l =>
      refine call_list_reprK he rfl rfl out (by simpa using k.length_eq) (fun i y e => k.item i y (by simpa using e)) (A := X.A.in1) hg (fun b _ => Clear.nil b) (by show X.A.units + 1 + _ < _; omega) (fun _ _ z => z) (fun h' u tk kp => ⟨_, _, rfl, ?_⟩) hz'
      have e0 : PyData.shown (.list ds) = listText (PyData.shownAll ds) := by simp only [PyData.shown]
      rw [← e0]
      exact fin h' u tk kp
end Mine

set_option Elab.async false
set_option linter.all false
set_option maxRecDepth 100000
set_option maxHeartbeats 4000000
/-! Promises of defs that are called where nothing is being shown (no repr runs): so that they may show data themselves. -/
namespace Mine
open PySem PySem.Spec L2
/-- a def's promise, kept wherever no repr is under way -/
structure FnG (P : Program) (w : World) (K : PySem.W.Frag) (mg : Str → Option Value) (base : Heap) (k : Nat) (f : Addr) (fd : FuncData) (ps : List Str) (sp : L2.Sp) : Prop where
  len : ∀ vs H Q E, sp vs H Q E → vs.length = ps.length
  run : ∀ (A : Around) (outer : List Env) (s : Shared) (H : Hp) (args : Args) (us : List Value) (vs : List V) (Q : L2.VK) (E : L2.XK), L2.Room k A → A.guards = some [] → L2.Env0 P w K mg base A outer s H → BindsTo s fd args (ps.zip us) → L2.Vals vs us → sp vs H Q E →
    codeAny (model P w) A (.call (.ref f) args) (L2.CR L2.CX0 outer P w H s Q E) s
theorem fnG_of {P : Program} {w : World} {K : PySem.W.Frag} {mg : Str → Option Value} {base : Heap} {k : Nat} {x qual : Str} {st : Stmt} {f : Addr} {fd : FuncData} {N ps : List Str} {sp : L2.Sp} (F : Fun K x qual st f fd) (S : FnScope N ps (defScope st))
    (len : ∀ vs H Q E, sp vs H Q E → vs.length = ps.length)
    (body : ∀ (cdv : Value) (A : Around) (outer : List Env) (s : Shared) (H : Hp) (vs : List V) (Q : L2.VK) (E : L2.XK), L2.Room k (A.deeper (PyProof.Rows.envOfC qual (defScope st) s.heap.objs.size f cdv)) → (A.deeper (PyProof.Rows.envOfC qual (defScope st) s.heap.objs.size f cdv)).guards = some [] → sp vs H Q E →
      ∃ t, PSs (cxOf CX0 P w K mg base N qual (defScope st) f cdv A outer s H E).nox (defBody st) t ∧ t { nx := fun _ H' => Q .non H', rt := Q } (start N vs) H) : FnG P w K mg base (k + 1) f fd ps sp := by
  obtain ⟨oc, od, kV, doc, pm, an, cdv, ct, osl, rfl, lk, hcd⟩ := F.ex
  refine ⟨len, fun A outer s H args us vs Q E hr hg e0 hb r q => ?_⟩
  have inS : ∀ b o, base.get? b = some o → s.heap.get? b = some o := fun b o z => (e0.bs b o z).1
  have hl := len _ _ _ _ q
  have kinds : ∀ y ∈ ps.zip us, (defScope st).names.lookup y.1 = some .local ∨ ((defScope st).names.lookup y.1 = some .cell ∧ ((cellsFrom (s.heap.objs.size + 1) (defScope st).names []).lookup y.1).isSome = true) := by
    intro y hy
    obtain ⟨n, v⟩ := y
    rcases S.par n (List.of_mem_zip hy).1 with z | z
    · exact .inl z
    · exact .inr ⟨z, PySem.W.cellsFrom_some _ _ _ (.inl z)⟩
  have KX := e0.mod.kin.keeps inS
  refine codeAny_call_function hr.depth (KX _ _ lk) rfl S.co S.gen rfl (PySem.W.codeRec_of KX hcd) (hb _ _ _ _ ?_)
  refine wpAny_newFunctionEnv_cells S.kind kinds fun env he s1 x => ?_
  subst he
  refine ⟨(e0.mod.nolimit.keeps inS).keeps x.toInCall.keep, codeAny_func ?_⟩
  obtain ⟨t, ht, hq⟩ := body cdv A outer s H vs Q E (hr.deeper _) hg q
  have I := inv_start (CX := CX0) (E := E) S hr.hd e0 hl r x
  refine wpAny_mono (ht.nox.run [] s1 (start N vs) H _ I hq) (fun fl s' hs => ?_) fun _ _ z => z
  have done : ∀ {σ' : L2.St} {H' : Hp} {v : V} {u : Value}, L2.Inv (cxOf CX0 P w K mg base N qual (defScope st) f cdv A outer s H E) [] σ' H' s' → L2.RelV v u → Q v H' → L2.CE outer P w H s Q u s' :=
    fun J rv z => ⟨_, _, J.os, J.bare, J.base, J.hok, rv, z⟩
  cases fl with
  | ret u =>
    obtain ⟨v, σ', H', J, rv, z⟩ := hs
    exact done J rv z
  | next =>
    obtain ⟨σ', H', J, z⟩ := hs
    exact done (v := V.non) (u := Value.none) J rfl z
  | brk =>
    obtain ⟨_, _, _, z⟩ := hs
    exact False.elim z
  | cont =>
    obtain ⟨_, _, _, z⟩ := hs
    exact False.elim z
section
variable {X : Cx} {k : Nat} {f : Addr} {fd : FuncData} {ps : List Str} {sp : L2.Sp} {x : Str} {p pos : Pos} {e : Expr} {es : List Expr} {t : L2.TA}
/-- such a def called -/
def tCallG (sp : L2.Sp) (t : L2.TA) : L2.TE := fun σ H Q => t σ H fun vs H1 => sp vs H1 Q fun _ _ _ => False
theorem pe_callG (F : FnG X.prog X.w X.K X.mg X.base k f fd ps sp) (hr : L2.Room k X.A) (hgd : X.A.guards = some []) (hg : Gl X x) (hm : X.mg x = some (.ref f)) (hk : PySem.W.keepIn X.K (.ref f) = true) (hb : L2.Binds X.K fd ps [])
    (ha : L2.PA X (e :: es) t) (hdb : (x == (PySem.Str.ofString "__debug__")) = false := by decide) (he : starEach (e :: es) X.env = (false, eval e X.env) :: starEach es X.env := by rfl) (hpl : (backTo pos (starEach es X.env)).any (·.1) = false := by rfl) :
    L2.PE X (.Call (.Name x p) (e :: es) [] pos) (tCallG sp t) := by
  refine ⟨fun pins s σ H Q I h => ?_⟩
  refine wpAny_Call_Name_kw (ld_glob I hg hm ?_ hdb)
  refine PySem.W.callWith_K (h₀ := X.base) I.ok.mod.kin hk (thn (ha.run pos pins s σ H _ I h) fun us s1 ⟨vs, H1, I1, r, q⟩ => ⟨I1.kIn, ?_⟩) he hpl
  have hl : us.length = ps.length := by
    rw [← r.length]
    exact F.len _ _ _ _ q
  have b := hb s1 us I1.kIn (by rw [List.append_nil]; exact hl)
  rw [List.append_nil] at b
  refine wpAny_call (codeAny_mono (F.run X.A X.stack s1 H1 ⟨us, []⟩ us vs Q _ hr hgd I1.env0 b r q) fun r s' hq => ?_)
  cases r with
  | error e => exact pass0 pins σ H1 s1 e s' I1 hq
  | ok fl =>
    cases fl with
    | ret u => exact I1.after hq
    | next => exact False.elim hq
    | brk => exact False.elim hq
    | cont => exact False.elim hq
end
end Mine
namespace Mine
open PySem PySem.Spec PyProof.Rows L2
/-! the law's own end -/
section
variable {P : Program} {w : World} {K : PySem.W.Frag} {mg mb : Str → Option Value} {k : Nat} {fa a : Addr} {fd : FuncData} {x : Str} {sp : L2.Sp} {s₁ : Shared} {vs : List Value} {ns : List Int}
/-- what is asked of the law's call -/
def LawEnd (P : Program) (w : World) (fa a : Addr) (s₁ : Shared) : Prop :=
  codeAny (model P w) callerA (.call (.ref fa) ⟨[.ref a], []⟩) (fun r s' => r = .ok (.ret (.bool true)) ∧ OldK s₁.heap s'.heap ∧ s'.os = s₁.os ∧ AllBare s'.gens) s₁
theorem end_from (KX : K.In s₁.heap) (hns : s₁.heap.Ns mainGlobals mg) (hb : s₁.heap.Ns builtinsNs mb) (hbb : ∀ x : Str, x ≠ "__name__" → mb x = bootBuiltins x) (hlim : s₁.heap.NoLimit) (hg : s₁.gens = #[])
    (ha : s₁.heap.get? a = some { cls := .type "list", data := .seq vs.toArray }) (hr : L2.Room k callerA)
    (F : ∀ base : Heap, K.In base → base.Ns mainGlobals mg → FnG P w K mg base k fa fd [x] sp) (hbind : ∀ (s : Shared) (u : Value), BindsTo s fd ⟨[u], []⟩ [(x, u)])
    (H : Hp) (hO : L2.Only H) (ok : L2.HOk P w H s₁.heap) (at_ : ∀ b, H b ≠ none → b = a) (notK : H a ≠ none → K.lookup a = none) (hsp : sp [.ref a] H (fun v _ => v = .bl true) fun _ _ _ => False) : LawEnd P w fa a s₁ := by
  have free : ∀ {b : Addr} {o : Obj} {es : Array DictEntry} {ep : Nat}, s₁.heap.get? b = some o → o.data = .dict es ep → H b = none := by
    intro b o es ep e d
    cases q : H b with
    | none => rfl
    | some u =>
      have z : b = a := at_ b (by rw [q]; exact fun y => nomatch y)
      subst z
      rw [ha] at e
      cases e
      cases d
  have names : ∀ {b : Addr} {m : Str → Option Value}, s₁.heap.Ns b m → (hidT s₁.heap H).Ns b m := fun {b m} ⟨o, es, ep, e, d, r⟩ => ⟨o, es, ep, hidT_get e (free e d), d, r⟩
  have Kb : K.In (hidT s₁.heap H) := fun b o e => hidT_get (KX b o e) (by
    cases q : H b with
    | none => rfl
    | some u =>
      have z : b = a := at_ b (by rw [q]; exact fun y => nomatch y)
      subst z
      rw [notK (by rw [q]; exact fun y => nomatch y)] at e
      cases e)
  have hM : L2.Mod K mg (hidT s₁.heap H) := ⟨Kb, names hns, ⟨mb, names hb, hbb⟩, let ⟨mc, h1, h2⟩ := hlim; ⟨mc, names h1, h2⟩⟩
  have e0 : L2.Env0 P w K mg (hidT s₁.heap H) callerA [] s₁ H := ⟨rfl, hM, fun b o e => of_hidT e, Nat.le_of_eq (hidT_size _ _), trivial, fun b z => absurd (show b ∈ ([] : List Addr) from z) (by simp), ok, .of_eq hg⟩
  refine codeAny_mono ((F _ Kb (names hns)).run callerA [] s₁ H ⟨[.ref a], []⟩ [.ref a] [.ref a] _ _ hr rfl e0 (hbind s₁ (.ref a)) (.cons rfl .nil) hsp) fun r s' h => ?_
  rcases r with e | fl
  · exact False.elim h
  cases fl with
  | next => exact False.elim h
  | brk => exact False.elim h
  | cont => exact False.elim h
  | ret u =>
    obtain ⟨v, H', os, bare, un, ok', r', q⟩ := h
    obtain rfl : v = .bl true := q
    obtain rfl : u = Value.bool true := r'
    refine ⟨rfl, OldK.of_keep fun b o e => ?_, os, bare⟩
    cases q : H b with
    | none => exact un.keep b o e q (fun z => absurd (show b ∈ ([] : List Addr) from z) (by simp)) (by simp)
    | some u =>
      rcases hO b with z | ⟨ob, xs, z⟩
      · rw [q] at z
        cases z
      · obtain ⟨e1, _⟩ := ok b _ z
        obtain ⟨e2, _⟩ := ok' b _ (un.frzs b ob _ z)
        rw [e] at e1
        cases e1
        exact e2
theorem law_callG (KX : K.In s₁.heap) (hns : s₁.heap.Ns mainGlobals mg) (hb : s₁.heap.Ns builtinsNs mb) (hbb : ∀ x : Str, x ≠ "__name__" → mb x = bootBuiltins x) (hlim : s₁.heap.NoLimit) (hg : s₁.gens = #[])
    (ha : s₁.heap.get? a = some { cls := .type "list", data := .seq vs.toArray }) (hi : IntsAre vs ns) (hl : ns.length ≤ sizeLine) (hr : L2.Room k callerA)
    (F : ∀ base : Heap, K.In base → base.Ns mainGlobals mg → FnG P w K mg base k fa fd [x] sp) (hbind : ∀ (s : Shared) (u : Value), BindsTo s fd ⟨[u], []⟩ [(x, u)])
    (hsp : ∀ H : Hp, L2.Only H → SqL K H a (ns.map V.int) → sp [.ref a] H (fun v _ => v = .bl true) fun _ _ _ => False) : LawEnd P w fa a s₁ := by
  have rv := vals_ints hi
  have lenV := hi.length
  cases hk : K.lookup a with
  | some o =>
    have e := KX a o hk
    rw [ha] at e
    cases e
    have none_ : L2.Only (fun _ => none) := fun _ => .inl rfl
    exact end_from KX hns hb hbb hlim hg ha hr F hbind _ none_ (fun _ _ z => nomatch z) (fun _ z => absurd rfl z) (fun z => absurd rfl z)
      (hsp _ none_ (.inr ⟨_, vs.toArray, _, hk, rfl, rfl, rfl, by rw [List.size_toArray, lenV]; exact hl, by simpa using rv⟩))
  | none =>
    let H1 : Hp := fun b => if b = a then some (.frz { cls := .type "list", data := .seq vs.toArray } (.lst (ns.map V.int))) else none
    have at1 : H1 a = some (.frz { cls := .type "list", data := .seq vs.toArray } (.lst (ns.map V.int))) := if_pos rfl
    have ne1 : ∀ {b}, b ≠ a → H1 b = none := fun h => if_neg h
    have only1 : L2.Only H1 := fun b => by
      by_cases h : b = a
      · exact .inr ⟨_, _, by rw [h]; exact at1⟩
      · exact .inl (ne1 h)
    refine end_from KX hns hb hbb hlim hg ha hr F hbind H1 only1 (fun b u z => ?_) (fun b z => ?_) (fun _ => hk) (hsp _ only1 (.inl (.inr ⟨_, at1⟩)))
    · by_cases h : b = a
      · subst h
        rw [at1] at z
        cases z
        exact ⟨ha, by rw [List.length_map]; exact hl, vs, _, rv, ha⟩
      · rw [ne1 h] at z
        cases z
    · by_cases h : b = a
      · exact h
      · exact absurd (ne1 h) z
end
theorem walkG {l : PySem.W.OpenLaw} {n k : Nat} {q : Program} {loose : List Str} {XP : (Str → Option Value) → Heap → Prop} {YP : World → Heap → Prop} {d : DefRec} {K : Params → PySem.W.Frag} {sp : PySem.W.Frag → L2.Sp} {x : Str}
    (hn : l.most = some n) (hn2 : n ≤ sizeLine) (hdf : d.params.defaults = []) (hr : L2.Room k callerA) (hY : ∀ (w : World) (h : Heap), YP w h → (K w.params).In h)
    (F : ∀ (w : World) (mg : Str → Option Value) (fa : Addr) (h : Heap), (K w.params).In h → h.Ns mainGlobals mg → mg d.name = some (.ref fa) →
      ∃ fd : FuncData, (∀ (s : Shared) (u : Value), BindsTo s fd ⟨[u], []⟩ [(x, u)]) ∧ ∀ base : Heap, (K w.params).In base → base.Ns mainGlobals mg → FnG l.prog w (K w.params) mg base k fa fd [x] (sp (K w.params)))
    (hsp : ∀ (K : PySem.W.Frag) (H : Hp) (a : Addr) (ns : List Int), ns.length ≤ n → L2.Only H → SqL K H a (ns.map V.int) → sp K [.ref a] H (fun v _ => v = .bl true) fun _ _ _ => False) :
    PySem.W.WalkO q loose XP YP l.row.toRowW d [] (fun f vs => PySem.call f vs) := by
  refine Att.attach_call hn hdf fun w s₀ s₁ mg mb fa o pm cd doc a vs ns G Y ho hd hcd hmg hobj hints hlen hg => ?_
  have KX := hY w _ Y
  obtain ⟨fd, hb, hF⟩ := F w mg fa _ KX G.T.g hmg
  exact law_callG KX G.T.g G.T.b G.T.builtins G.T.nolimit hg hobj hints (Nat.le_trans hlen hn2) hr hF hb fun H hO hS => hsp (K w.params) H a ns hlen hO hS
end Mine

set_option Elab.async false
set_option linter.all false
set_option maxRecDepth 100000
set_option maxHeartbeats 4000000
/-! The deck: its cells, the mixed number, how many draws; a draw lies below what is asked. -/
namespace K01
open PySem PySem.Spec PyProof.Rows L2 Mine
def top (i : Nat) : Stmt := PySem.Challenge.pw_sealedalike_k01_errors.main.body.getD i (.Pass ⟨0, 0, 0, 0⟩)
abbrev sDeck : Stmt := top 12
abbrev sDraw : Stmt := top 13
def deckD (dl : Addr) (m t : Int) : List (Key × V) := [(Sum.inr (PySem.Str.ofString "cells"), .ref dl), (Sum.inr (PySem.Str.ofString "mixed"), .int m), (Sum.inr (PySem.Str.ofString "draws"), .int t)]
theorem neCM : ¬ (Sum.inr (PySem.Str.ofString "cells") : Key) = Sum.inr (PySem.Str.ofString "mixed") := by decide +kernel
theorem neCD : ¬ (Sum.inr (PySem.Str.ofString "cells") : Key) = Sum.inr (PySem.Str.ofString "draws") := by decide +kernel
theorem neMD : ¬ (Sum.inr (PySem.Str.ofString "mixed") : Key) = Sum.inr (PySem.Str.ofString "draws") := by decide +kernel
theorem vC {dl : Addr} {m t : Int} : valV (deckD dl m t) (Sum.inr (PySem.Str.ofString "cells")) = some (.ref dl) := valV_pos rfl
theorem vM {dl : Addr} {m t : Int} : valV (deckD dl m t) (Sum.inr (PySem.Str.ofString "mixed")) = some (.int m) := (valV_neg neCM).trans (valV_pos rfl)
theorem vD {dl : Addr} {m t : Int} : valV (deckD dl m t) (Sum.inr (PySem.Str.ofString "draws")) = some (.int t) := (valV_neg neCD).trans ((valV_neg neMD).trans (valV_pos rfl))
theorem pD {dl : Addr} {m t u : Int} : putK (deckD dl m t) (Sum.inr (PySem.Str.ofString "draws")) (.int u) = deckD dl m u := by
  have h1 := neCD
  have h2 := neMD
  have e1 : ¬ PySem.Str.ofString "cells" = PySem.Str.ofString "draws" := fun q => h1 (congrArg Sum.inr q)
  have e2 : ¬ PySem.Str.ofString "mixed" = PySem.Str.ofString "draws" := fun q => h2 (congrArg Sum.inr q)
  unfold putK deckD
  simp [e1, e2]
theorem gC {H : Hp} {dk dl : Addr} {m t : Int} (h : H dk = some (.dK (deckD dl m t))) : DGet H dk (.str (PySem.Str.ofString "cells")) (some (.ref dl)) := by
  have q := DGet.k (k := Sum.inr (PySem.Str.ofString "cells")) h
  rw [vC] at q
  exact q
theorem gM {H : Hp} {dk dl : Addr} {m t : Int} (h : H dk = some (.dK (deckD dl m t))) : DGet H dk (.str (PySem.Str.ofString "mixed")) (some (.int m)) := by
  have q := DGet.k (k := Sum.inr (PySem.Str.ofString "mixed")) h
  rw [vM] at q
  exact q
theorem gD {H : Hp} {dk dl : Addr} {m t : Int} (h : H dk = some (.dK (deckD dl m t))) : DGet H dk (.str (PySem.Str.ofString "draws")) (some (.int t)) := by
  have q := DGet.k (k := Sum.inr (PySem.Str.ofString "draws")) h
  rw [vD] at q
  exact q
theorem ppD {H : Hp} {dk dl : Addr} {m t u : Int} (h : H dk = some (.dK (deckD dl m t))) : DPut H dk (.str (PySem.Str.ofString "draws")) (.int u) (upd H dk (.dK (deckD dl m u))) := by
  have q := DPut.k (k := Sum.inr (PySem.Str.ofString "draws")) (v := .int u) h (by show 3 < sizeLine; decide)
  rw [pD] at q
  exact q
/-- the deck stands at dk, its cells at dl, after t draws -/
structure DeckAt (H : Hp) (dk dl : Addr) (t : Int) : Prop where
  d : ∃ m, H dk = some (.dK (deckD dl m t)) ∧ 0 ≤ m ∧ m < 2147483587
  l : ∃ cs : List Int, H dl = some (.lst (cs.map V.int)) ∧ cs.length ≤ 63
/-- all but the deck stands -/
def Keep (dk dl : Addr) (H H' : Hp) : Prop := ∀ b o, b ≠ dk → b ≠ dl → H b = some o → H' b = some o
def spDraw : Sp := fun vs H Q _ => ∃ (dk dl : Addr) (b t : Int), vs = [.ref dk, .int b] ∧ DeckAt H dk dl t ∧ 1 ≤ b ∧ b ≤ 1000 ∧ 0 ≤ t ∧ t ≤ 100000 ∧
  ∀ (r : Int) (H' : Hp), 0 ≤ r → r < b → DeckAt H' dk dl (t + 1) → Keep dk dl H H' → Q (.int r) H'
structure TxtD (mg : Str → Option Value) : Prop where
  int : mg "int" = none
  lst : mg "list" = none
theorem ints_dp {H : Hp} {K : PySem.W.Frag} : ∀ cs : List Int, DpAll K H (cs.map V.int) (cs.map PyData.int)
  | [] => .nil
  | c :: cs => .cons (.int c) (ints_dp cs)
theorem ints_lay : ∀ cs : List Int, PyData.canLayAll0 (cs.map PyData.int) = true
  | [] => by simp [PyData.canLayAll0]
  | c :: cs => by simp [PyData.canLayAll0, PyData.canLay0, ints_lay cs]
theorem ints_dep : ∀ cs : List Int, PyData.depthAll (cs.map PyData.int) = 0
  | [] => by simp [PyData.depthAll]
  | c :: cs => by simp [PyData.depthAll, PyData.depth, ints_dep cs]
theorem ints_shaped (cs : List Int) : SeqAt.shaped (.list (cs.map PyData.int)) = true := by
  show (PyData.canLay0 (.list (cs.map PyData.int)) && decide (PyData.depth (.list (cs.map PyData.int)) ≤ 64)) = true
  rw [Bool.and_eq_true]
  refine ⟨by simp only [PyData.canLay0]; exact ints_lay cs, decide_eq_true ?_⟩
  simp only [PyData.depth, ints_dep]
  decide
section
variable {P : Program} {w : World} {K : PySem.W.Frag} {mg : Str → Option Value} {base : Heap}
theorem scDraw : FnScope ["_law_deck_here", "_law_below", "_law_turn", "_law_cell", "_law_figure"] ["_law_deck_here", "_law_below"] (defScope sDraw) := ⟨rfl, rfl, rfl, by decide +kernel, rfl, by decide +kernel, by decide +kernel⟩
theorem ok_draw {f : Addr} {fd : FuncData} (F : Fun K "_law_draw" "_law_draw" sDraw f fd) (T : TxtD mg) : FnOk P w K mg base CX0 1 f fd ["_law_deck_here", "_law_below"] spDraw := by
  refine F.ok scDraw (fun vs H Q E h => ?_) (fun cdv A outer s H vs Q E hr h => ?_)
  · obtain ⟨dk, dl, b, t, rfl, _⟩ := h
    rfl
  · obtain ⟨dk, dl, b, t, rfl, ⟨⟨m, hd, m0, m1⟩, ⟨cs, hl, hcs⟩⟩, b1, b2, t0, t1, k⟩ := h
    have hu := hu_of hr
    have ne : dk ≠ dl := ne_of hd hl (by intro z; cases z)
    have em : ∀ (i j : Int), 0 < j → 0 ≤ i % j ∧ i % j < j := fun i j h => ⟨Int.emod_nonneg i (Int.ne_of_gt h), Int.emod_lt_of_pos i h⟩
    -- the last three statements
    have tail : ∃ tl, PSs (cxOf CX0 P w K mg base ["_law_deck_here", "_law_below", "_law_turn", "_law_cell", "_law_figure"] "_law_draw" (defScope sDraw) f cdv A outer s H E).nox ((defBody sDraw).drop 3) tl ∧
        ∀ (c : Int) (v : Option V) (H2 : Hp), DeckAt H2 dk dl (t + 1) → Keep dk dl H H2 → tl { nx := fun _ H' => Q .non H', rt := Q } [some (.ref dk), some (.int b), some (.int (t + 1)), some (.int c), v] H2 := by
      refine ⟨_, pss_cons (ps_set (i := 4) scDraw.nd rfl (.inl rfl) (pe_op op_mod (pe_op op_mul (pe_callTy call_int1 (by rfl) T.int (by decide +kernel) (pa_cons (pe_op op_add (pe_op op_add (pe_op op_mod (pe_callTy call_int1 (by rfl) T.int (by decide +kernel) (pa_cons (pv 3) pa_nil)) pe_int) (pe_op op_mul (pe_op op_mul pe_int (pv 2)) (pv 2))) pe_int) pa_nil)) pe_int) pe_int))
        (pss_cons (ps_set (i := 4) scDraw.nd rfl (.inl rfl) (pe_op op_mod (pe_callTy call_int1 (by rfl) T.int (by decide +kernel) (pa_cons (pe_op op_add (pe_op op_add (pe_op op_mul (pv 4) (pv 4)) (pe_op op_mul pe_int (pv 2))) pe_int) pa_nil)) pe_int))
        (pss_one (ps_ret (pe_op op_mod (pe_op op_fdiv (pe_op op_mod (pe_callTy call_int1 (by rfl) T.int (by decide +kernel) (pa_cons (pe_op op_mul (pv 4) pe_int) pa_nil)) pe_int) pe_int) (pv 1))))), ?_⟩
      intro c v H2 hD hK
      have u1 : CMul 60702 (t + 1) := .inl ⟨by decide, by decide⟩
      refine ⟨_, rfl, .inl ⟨_, rfl, _, _, rfl, rfl, (by decide : (0 : Int) < 2147483629), _, rfl, _, _, rfl, rfl, u1, _, rfl, _, _, rfl, rfl, .inr ⟨by omega, by omega⟩, _, _, rfl, rfl, _, _, rfl, rfl, .inl ⟨_, rfl, _, _, rfl, rfl, .inr ⟨by decide, by decide⟩, _, _, rfl, rfl, (by decide : (0 : Int) < 2147483647), ?_⟩⟩⟩
      have b3 := em ((c % 2147483629 + 60702 * (t + 1) * (t + 1) + 14) * 40692) 2147483647 (by decide)
      refine ⟨_, rfl, _, rfl, _, _, rfl, rfl, .inl ⟨Int.lt_of_lt_of_le (by decide) b3.1, Int.lt_trans b3.2 (by decide)⟩, _, rfl, _, _, rfl, rfl, .inl ⟨by decide, by decide⟩, _, _, rfl, rfl, _, _, rfl, rfl, .inl ⟨_, rfl, _, _, rfl, rfl, (by decide : (0 : Int) < 2147483579), ?_⟩⟩
      refine ⟨_, rfl, _, _, rfl, rfl, .inr ⟨by decide, by decide⟩, .inl ⟨_, rfl, _, _, rfl, rfl, (by decide : (0 : Int) < 2147483563), _, _, rfl, rfl, ⟨by decide, by decide⟩, _, rfl, _, _, rfl, rfl, (by omega : (0 : Int) < b), ?_⟩⟩
      exact k _ _ (em _ b (by omega)).1 (em _ b (by omega)).2 hD hK
    obtain ⟨tl, htl, ptl⟩ := tail
    refine ⟨_, pss_cons (ps_dput hu (pv 0) pe_str (pe_op op_add (pe_dget hu (pv 0) pe_str (fun _ _ => rfl)) pe_int) rfl)
      (pss_cons (ps_par (i := 2) (j := 3) rfl scDraw.nd rfl rfl (by decide) rfl rfl (pa_cons (pe_dget hu (pv 0) pe_str (fun _ _ => rfl)) (pa_cons (pe_dget hu (pv 0) pe_str (fun _ _ => rfl)) pa_nil)) (by rfl))
      (pss_cons (ps_if (pt_cmpR (op_neD hr.units) (pe_dget hu (pv 0) pe_str (fun _ _ => rfl)) (pe_lst pa_nil) (nomark _))
        (pss_cons (ps_set (i := 3) scDraw.nd rfl (.inl rfl) (pe_bm0 PySem.F.plainAttrs_list PySem.F.slot_list_pop PySem.F.type_list_pop mt_pop (pe_dget hu (pv 0) pe_str (fun _ _ => rfl))))
        (pss_cons (ps_if (pt_cmpR op_ge (pv 3) (pe_op op_pow pe_int pe_int) (nomark _))
          (pss_cons (ps_expr (pe_bm PySem.F.plainAttrs_list PySem.F.slot_list_append PySem.F.type_list_append mt_append (pe_dget hu (pv 0) pe_str (fun _ _ => rfl)) (pa_cons (pe_op op_fdiv (pv 3) (pv 1)) pa_nil)))
          (pss_one (ps_ret (pe_op op_mod (pe_callTy call_int1 (by rfl) T.int (by decide +kernel) (pa_cons (pv 3) pa_nil)) (pv 1))))) pss_nil)
        (pss_one (ps_set (i := 3) scDraw.nd rfl (.inl rfl) (pe_op op_add (pe_callTy call_int1 (by rfl) T.int (by decide +kernel) (pa_cons (pv 3) pa_nil)) (pe_dget hu (pv 0) pe_str (fun _ _ => rfl))))))) pss_nil)
      htl)), ?_⟩
    refine ⟨_, rfl, dk, _, rfl, gD hd, _, _, rfl, rfl, _, rfl, dk, _, rfl, ppD hd, ?_⟩
    have hd1 : upd H dk (.dK (deckD dl m (t + 1))) dk = some (.dK (deckD dl m (t + 1))) := upd_same
    have hl1 : upd H dk (.dK (deckD dl m (t + 1))) dl = some (.lst (cs.map V.int)) := (upd_ne ne.symm).trans hl
    have k1 : Keep dk dl H (upd H dk (.dK (deckD dl m (t + 1)))) := fun c o h1 _ e => (upd_ne h1).trans e
    generalize upd H dk (.dK (deckD dl m (t + 1))) = H1 at hd1 hl1 k1
    refine ⟨_, rfl, dk, _, rfl, gD hd1, _, rfl, dk, _, rfl, gM hd1, _, _, rfl, ?_⟩
    refine ⟨_, rfl, dk, _, rfl, gC hd1, (by show 0 ≤ sizeLine; exact Nat.zero_le _), fun p hp => ?_⟩
    have np : ∀ {b : Addr} {o : HO}, H1 b = some o → b ≠ p := fun e => ne_of_none e hp
    have kp : Keep dk dl H (upd H1 p (.lst [])) := fun c o h1 h2 e => (upd_ne (np (k1 c o h1 h2 e))).trans (k1 c o h1 h2 e)
    have hd2 : upd H1 p (.lst []) dk = _ := (upd_ne (np hd1)).trans hd1
    have hl2 : upd H1 p (.lst []) dl = _ := (upd_ne (np hl1)).trans hl1
    have hp2 : upd H1 p (.lst []) p = some (.lst []) := upd_same
    generalize upd H1 p (.lst []) = H2 at kp hd2 hl2 hp2
    refine ⟨_, _, .lst (.inl (.inl hl2)) (ints_dp cs), .lst (.inl (.inl hp2)) .nil, ints_shaped cs, rfl, _, rfl, ?_⟩
    cases cs with
    | nil =>
      refine iteF ?_
      exact ptl m none H2 ⟨⟨m, hd2, m0, m1⟩, ⟨[], hl2, Nat.zero_le _⟩⟩ kp
    | cons c0 cr =>
      refine iteT ?_
      obtain ⟨z, hz⟩ : ∃ z, ((c0 :: cr).map V.int)[((c0 :: cr).map V.int).length - 1]? = some (V.int z) := by
        refine ⟨(c0 :: cr).getLast (List.cons_ne_nil _ _), ?_⟩
        rw [List.length_map, List.getElem?_map, ← List.getLast?_eq_getElem?]
        rfl
      have hdrop : ((c0 :: cr).map V.int).dropLast = (c0 :: cr).dropLast.map V.int := (List.map_dropLast).symm
      have hlen : (c0 :: cr).dropLast.length ≤ 62 := by
        rw [List.length_dropLast]
        omega
      refine ⟨_, rfl, dk, _, rfl, gC hd2, .inl ⟨rfl, _, .inl (.inl hl2)⟩, dl, _, _, rfl, rfl, hl2, hz, ?_⟩
      rw [hdrop]
      have hd3 : upd H2 dl (.lst ((c0 :: cr).dropLast.map V.int)) dk = _ := (upd_ne ne).trans hd2
      have hl3 : upd H2 dl (.lst ((c0 :: cr).dropLast.map V.int)) dl = _ := upd_same
      have k3 : Keep dk dl H (upd H2 dl (.lst ((c0 :: cr).dropLast.map V.int))) := fun c o h1 h2 e => (upd_ne h2).trans (kp c o h1 h2 e)
      generalize (c0 :: cr).dropLast = dr at hd3 hl3 k3 hlen
      generalize upd H2 dl (.lst (dr.map V.int)) = H3 at hd3 hl3 k3
      refine ⟨_, rfl, _, _, rfl, rfl, ⟨by decide, by decide, by decide⟩, _, _, rfl, rfl, _, rfl, ?_⟩
      refine ite2 (fun _ => ?_) (fun _ => ?_)
      · refine ⟨_, rfl, dk, _, rfl, gC hd3, .inl ⟨rfl, _, .inl (.inl hl3)⟩, _, rfl, _, rfl, _, _, rfl, rfl, ⟨by omega, by omega⟩, dl, _, _, rfl, rfl, hl3, ?_, ?_⟩
        · show (dr.map V.int).length < sizeLine
          rw [List.length_map, sizeLine_eq]
          omega
        · refine ⟨_, rfl, .inl ⟨_, rfl, _, rfl, _, _, rfl, rfl, (by omega : (0 : Int) < b), ?_⟩⟩
          refine k _ _ (em z b (by omega)).1 (em z b (by omega)).2 ⟨⟨m, (upd_ne ne).trans hd3, m0, m1⟩, ⟨dr ++ [z / b], ?_, ?_⟩⟩ fun c o h1 h2 e => (upd_ne h2).trans (k3 c o h1 h2 e)
          · rw [upd_same, List.map_append]
            rfl
          · rw [List.length_append]
            show dr.length + 1 ≤ 63
            omega
      · refine ⟨_, rfl, .inl ⟨_, rfl, _, rfl, dk, _, rfl, gM hd3, _, _, rfl, rfl, ?_⟩⟩
        exact ptl (z + m) none H3 ⟨⟨m, hd3, m0, m1⟩, ⟨dr, hl3, by omega⟩⟩ k3
end
end K01

set_option Elab.async false
set_option linter.all false
set_option maxRecDepth 100000
set_option maxHeartbeats 4000000
/-! The deck is made of the script. -/
namespace K01
open PySem PySem.Spec PyProof.Rows L2 Mine
def spDeck (K : PySem.W.Frag) : Sp := fun vs H Q _ => ∃ (a : Addr) (ns : List Int), vs = [.ref a] ∧ SqL K H a (ns.map V.int) ∧ ns.length ≤ 63 ∧
  ∀ (dk dl : Addr) (H' : Hp), Same H H' → H dk = none → H dl = none → DeckAt H' dk dl 0 → Q (.ref dk) H'
theorem merged {dl : Addr} {m : Int} : mergeK [] (deckD dl m 0) = deckD dl m 0 := by
  have e1 : ¬ PySem.Str.ofString "cells" = PySem.Str.ofString "mixed" := fun q => neCM (congrArg Sum.inr q)
  have e2 : ¬ PySem.Str.ofString "cells" = PySem.Str.ofString "draws" := fun q => neCD (congrArg Sum.inr q)
  have e3 : ¬ PySem.Str.ofString "mixed" = PySem.Str.ofString "draws" := fun q => neMD (congrArg Sum.inr q)
  simp [mergeK, deckD, putK, e1, e2, e3]
theorem same_new {H H1 : Hp} {p : Addr} {o : HO} (h : Same H H1) (hp : H1 p = none) : Same H (upd H1 p o) := fun b u e => (upd_ne (ne_of_none (h b u e) hp)).trans (h b u e)
section
variable {P : Program} {w : World} {K : PySem.W.Frag} {mg : Str → Option Value} {base : Heap}
theorem scDeck : FnScope ["_law_script", "_law_cells", "_law_mixed", "_law_cell"] ["_law_script"] (defScope sDeck) := ⟨rfl, rfl, rfl, by decide +kernel, rfl, by decide +kernel, by decide +kernel⟩
theorem ok_deck {f : Addr} {fd : FuncData} (F : Fun K "_law_deck" "_law_deck" sDeck f fd) (T : TxtD mg) : FnOk P w K mg base CX0 1 f fd ["_law_script"] (spDeck K) := by
  refine F.ok scDeck (fun vs H Q E h => ?_) (fun cdv A outer s H vs Q E hr h => ?_)
  · obtain ⟨a, ns, rfl, _⟩ := h
    rfl
  · obtain ⟨a, ns, rfl, hS, hlen, k⟩ := h
    have em : ∀ (i j : Int), 0 < j → 0 ≤ i % j ∧ i % j < j := fun i j h => ⟨Int.emod_nonneg i (Int.ne_of_gt h), Int.emod_lt_of_pos i h⟩
    refine ⟨_, pss_cons (ps_par (i := 1) (j := 2) rfl scDeck.nd rfl rfl (by decide) rfl rfl (pa_cons (pe_callTy call_list_of (by rfl) T.lst (by decide +kernel) (pa_cons (pe_slice sl_list (pv 0) po_none (po_some pe_int)) pa_nil)) (pa_cons pe_int pa_nil)) (by rfl))
      (pss_cons (ps_for PassesOwn.never rfl (pi_list (pv 1)) (pg_name (i := 3) scDeck.nd rfl (.inl rfl))
        (pss_one (ps_set (i := 2) scDeck.nd rfl (.inl rfl) (pe_op op_mod (pe_callTy call_int1 (by rfl) T.int (by decide +kernel) (pa_cons (pe_op op_add (pe_op op_add (pe_op op_mul (pv 2) pe_int) (pe_op op_mod (pe_callTy call_int1 (by rfl) T.int (by decide +kernel) (pa_cons (pv 3) pa_nil)) pe_int)) pe_int) pa_nil)) pe_int))))
      (pss_one (ps_ret (pe_disp (pps_cons pe_str (pe_revL (pv 1)) (pps_cons pe_str (pv 2) (pps_cons pe_str pe_int pps_nil))) (by rfl) (by rfl) (fun z => by cases z) (by decide))))), ?_⟩
    refine ⟨_, rfl, _, rfl, a, _, rfl, hS, fun p hp => ⟨p, _, rfl, .inl (SqL.of upd_same), fun l hl => ?_⟩⟩
    obtain ⟨cs, ecs, hcs⟩ : ∃ cs : List Int, cutV (ns.map V.int) none (some 63) = cs.map V.int ∧ cs.length ≤ 63 := by
      refine ⟨(ns.drop (HT.sIx (ns.map V.int).length 0 none)).take (HT.sIx (ns.map V.int).length (ns.map V.int).length (some 63) - HT.sIx (ns.map V.int).length 0 none), ?_, ?_⟩
      · unfold cutV
        rw [List.map_take, List.map_drop]
      · rw [List.length_take, List.length_drop]
        omega
    rw [ecs]
    have s1 : Same H (upd H p (.lst (cs.map V.int))) := same_new (fun _ _ e => e) hp
    have s2 : Same H (upd (upd H p (.lst (cs.map V.int))) l (.lst (cs.map V.int))) := same_new s1 (by rw [← ecs]; exact hl)
    have hl2 : upd (upd H p (.lst (cs.map V.int))) l (.lst (cs.map V.int)) l = some (.lst (cs.map V.int)) := upd_same
    generalize upd (upd H p (.lst (cs.map V.int))) l (.lst (cs.map V.int)) = H1 at s2 hl2
    refine ⟨_, _, rfl, ?_⟩
    refine ⟨_, rfl, l, rfl, ⟨_, .inl (.inl hl2)⟩, for_list (K := K) (a := l) (xs := cs.map V.int) (fun i σ H2 => ∃ (m : Int) (v : Option V), σ = [some (.ref a), some (.ref l), some (.int m), v] ∧ H2 = H1 ∧ 0 ≤ m ∧ m < 2147483587)
      ⟨1085701, none, rfl, rfl, by decide, by decide⟩ (fun i σ H2 _ ⟨_, _, _, e, _⟩ => by rw [e]; exact .inl (.inl hl2)) ?_ ?_⟩
    · rintro i y σ H2 hi ⟨m, v, rfl, rfl, m0, m1⟩
      obtain ⟨z, rfl⟩ : ∃ z, y = V.int z := by
        rw [List.getElem?_map] at hi
        cases e : cs[i]? with
        | none =>
          rw [e] at hi
          cases hi
        | some z =>
          rw [e] at hi
          exact ⟨z, (Option.some.inj hi).symm⟩
      refine ⟨_, rfl, _, _, rfl, rfl, .inr ⟨by decide, by decide⟩, _, rfl, .inl ⟨_, rfl, _, _, rfl, rfl, (by decide : (0 : Int) < 2147483629), _, _, rfl, rfl, _, _, rfl, rfl, .inl ⟨_, rfl, _, _, rfl, rfl, (by decide : (0 : Int) < 2147483587), ?_⟩⟩⟩
      exact ⟨_, _, rfl, rfl, (em _ _ (by decide)).1, (em _ _ (by decide)).2⟩
    · rintro σ H2 ⟨m, v, rfl, rfl, m0, m1⟩
      intro d hd
      have nl : l ≠ d := ne_of_none hl2 hd
      refine ⟨_, rfl, l, _, rfl, .inl (.inl ((upd_ne nl).trans hl2)), fun q hq => ⟨_, rfl, ?_⟩⟩
      have nq : d ≠ q := ne_of_none upd_same hq
      refine ⟨(upd_ne nq).trans upd_same, deckD q m 0, rfl, (by show 3 ≤ 15; decide), ?_⟩
      have fr : ∀ {c : Addr}, H2 c = none → H c = none := fun {c} e => by
        cases z : H c with
        | none => rfl
        | some o =>
          rw [s2 c o z] at e
          cases e
      have hq0 : H2 q = none := (upd_ne nq.symm).symm.trans hq
      rw [merged]
      refine k d q _ (fun b o e => ?_) (fr hd) (fr hq0) ⟨⟨m, upd_same, m0, m1⟩, ⟨cs.reverse, ?_, ?_⟩⟩
      · rw [upd_ne (ne_of_none (s2 b o e) hd), upd_ne (ne_of_none (s2 b o e) hq0), upd_ne (ne_of_none (s2 b o e) hd)]
        exact s2 b o e
      · rw [upd_ne nq.symm, upd_same, List.map_reverse]
      · rw [List.length_reverse]
        exact hcs
end
end K01

set_option Elab.async false
set_option linter.all false
set_option maxRecDepth 100000
set_option maxHeartbeats 4000000
/-! A drawn value of any kind, at most two deep. -/
namespace K01
open PySem PySem.Spec PyProof.Rows L2 Mine
abbrev sAny : Stmt := top 15
/-- what is new in a heap -/
def Nw (H H' : Hp) : Hp := fun b => if H b = none then H' b else none
theorem Nw.at {H H' : Hp} {b : Addr} {o : HO} (h : H b = none) (e : H' b = some o) : Nw H H' b = some o := by
  unfold Nw
  rw [if_pos h]
  exact e
theorem Nw.of {H H' : Hp} {b : Addr} {o : HO} (e : Nw H H' b = some o) : H b = none ∧ H' b = some o := by
  unfold Nw at e
  by_cases h : H b = none
  · rw [if_pos h] at e
    exact ⟨h, e⟩
  · rw [if_neg h] at e
    cases e
theorem Nw.mono {H0 H H' H'' : Hp} (dom : ∀ b, H b = none → H0 b = none) (k : ∀ b o, H b = none → H' b = some o → H'' b = some o) : ∀ b o, Nw H H' b = some o → Nw H0 H'' b = some o := fun b o e =>
  let ⟨h1, h2⟩ := Nw.of e
  Nw.at (dom b h1) (k b o h1 h2)
theorem Keep.trans {dk dl : Addr} {H H1 H2 : Hp} (a : Keep dk dl H H1) (b : Keep dk dl H1 H2) : Keep dk dl H H2 := fun c o h1 h2 e => b c o h1 h2 (a c o h1 h2 e)
theorem Keep.new {dk dl p : Addr} {H H1 : Hp} {o : HO} (a : Keep dk dl H H1) (hp : H1 p = none) : Keep dk dl H (upd H1 p o) := fun c u h1 h2 e => (upd_ne (ne_of_none (a c u h1 h2 e) hp)).trans (a c u h1 h2 e)
theorem Keep.refl {dk dl : Addr} {H : Hp} : Keep dk dl H H := fun _ _ _ _ e => e
theorem DeckAt.new {dk dl p : Addr} {H : Hp} {t : Int} {o : HO} (h : DeckAt H dk dl t) (hp : H p = none) : DeckAt (upd H p o) dk dl t := by
  obtain ⟨⟨m, h1, m0, m1⟩, ⟨cs, h2, l⟩⟩ := h
  exact ⟨⟨m, (upd_ne (ne_of_none h1 hp)).trans h1, m0, m1⟩, ⟨cs, (upd_ne (ne_of_none h2 hp)).trans h2, l⟩⟩
theorem DeckAt.off {dk dl p : Addr} {H : Hp} {t : Int} (h : DeckAt H dk dl t) (hp : H p = none) : p ≠ dk ∧ p ≠ dl := by
  obtain ⟨⟨m, h1, _⟩, ⟨cs, h2, _⟩⟩ := h
  exact ⟨(ne_of_none h1 hp).symm, (ne_of_none h2 hp).symm⟩
theorem DeckAt.dom {dk dl : Addr} {H H' : Hp} {t t' : Int} (h : DeckAt H dk dl t) (h' : DeckAt H' dk dl t') (k : Keep dk dl H H') : ∀ b, H' b = none → H b = none := fun b e => by
  cases z : H b with
  | none => rfl
  | some o =>
    by_cases e1 : b = dk
    · obtain ⟨⟨m, h1, _⟩, _⟩ := h'
      rw [e1, h1] at e
      cases e
    · by_cases e2 : b = dl
      · obtain ⟨_, ⟨cs, h2, _⟩⟩ := h'
        rw [e2, h2] at e
        cases e
      · rw [k b o e1 e2 z] at e
        cases e
/-- what a deed on the deck alone leaves of new things -/
theorem Keep.news {dk dl : Addr} {H H' H'' : Hp} {t : Int} (h : DeckAt H dk dl t) (k : Keep dk dl H' H'') : ∀ b o, H b = none → H' b = some o → H'' b = some o := fun b o n e =>
  let ⟨h1, h2⟩ := h.off n
  k b o h1 h2 e
/-- the size of a drawn value's text, by its depth -/
def big : Nat → Nat
  | 0 => 60
  | n + 1 => 3 * big n + 40
/-- draws at most -/
def cost : Nat → Int
  | 0 => 1
  | n + 1 => 2 + 3 * cost n
theorem _root_.Mine.Shows.up {n n' l l' : Nat} {d : PyData} (h : Shows n l d) (h1 : n ≤ n') (h2 : l ≤ l') : Shows n' l' d := ⟨h.ok, Nat.le_trans h.len h1, Nat.le_trans h.dep h2⟩
/-- all of them -/
theorem _root_.Mine.DKs.snoc' {H : Hp} {vs : List V} {ds : List PyData} {v : V} {d : PyData} (a : DKs H vs ds) (h : DK H v d) : DKs H (vs ++ [v]) (ds ++ [d]) := DKs.snoc h a
structure ShowsAll (n l k : Nat) (ds : List PyData) : Prop where
  ok : PyData.showableAll ds = true
  len : ((PyData.shownAll ds).map (·.length)).sum ≤ n * k
  num : (PyData.shownAll ds).length ≤ k
  dep : PyData.depthAll ds ≤ l
theorem ShowsAll.nil {n l : Nat} : ShowsAll n l 0 [] := ⟨by simp [PyData.showableAll], by simp [PyData.shownAll], by simp [PyData.shownAll], by simp [PyData.depthAll]⟩
theorem ShowsAll.snoc {n l k : Nat} {d : PyData} (h : Shows n l d) : ∀ {ds : List PyData}, ShowsAll n l k ds → ShowsAll n l (k + 1) (ds ++ [d]) := fun {ds} a => by
  have ap1 : ∀ xs : List PyData, PyData.showableAll (xs ++ [d]) = (PyData.showableAll xs && d.showable) := fun xs => by
    induction xs with
    | nil => simp [PyData.showableAll]
    | cons x r ih => simp [PyData.showableAll, ih, Bool.and_assoc]
  have ap2 : ∀ xs : List PyData, PyData.shownAll (xs ++ [d]) = PyData.shownAll xs ++ [d.shown] := fun xs => by
    induction xs with
    | nil => simp [PyData.shownAll]
    | cons x r ih => simp [PyData.shownAll, ih]
  have ap3 : ∀ xs : List PyData, PyData.depthAll (xs ++ [d]) = max (PyData.depthAll xs) d.depth := fun xs => by
    induction xs with
    | nil => simp [PyData.depthAll]
    | cons x r ih =>
      simp only [List.cons_append, PyData.depthAll, ih]
      omega
  refine ⟨by rw [ap1, a.ok, h.ok]; rfl, ?_, ?_, ?_⟩
  · rw [ap2, List.map_append, List.sum_append, Nat.mul_succ]
    have := h.len
    have := a.len
    simp only [List.map_cons, List.map_nil, List.sum_cons, List.sum_nil]
    omega
  · rw [ap2, List.length_append]
    have := a.num
    simp only [List.length_cons, List.length_nil]
    omega
  · rw [ap3]
    have := h.dep
    have := a.dep
    omega
theorem ShowsAll.list {n l k : Nat} {ds : List PyData} (a : ShowsAll n l k ds) (hk : k ≤ 3) : Shows (3 * n + 9) (l + 1) (.list ds) := by
  have h1 := listText_len_le (PyData.shownAll ds)
  have h2 : n * k ≤ n * 3 := Nat.mul_le_mul_left n hk
  have h3 := a.len
  have h4 := a.num
  have h5 := a.dep
  exact ⟨by simpa only [PyData.showable] using a.ok, by simp only [PyData.shown]; omega, by simp only [PyData.depth]; omega⟩
theorem ShowsAll.tuple {n l k : Nat} {ds : List PyData} (a : ShowsAll n l k ds) (hk : k ≤ 3) : Shows (3 * n + 9) (l + 1) (.tuple ds) := by
  have h1 := tupleText_len_le (PyData.shownAll ds)
  have h2 : n * k ≤ n * 3 := Nat.mul_le_mul_left n hk
  have h3 := a.len
  have h4 := a.num
  have h5 := a.dep
  exact ⟨by simpa only [PyData.showable] using a.ok, by simp only [PyData.shown]; omega, by simp only [PyData.depth]; omega⟩
theorem _root_.Mine.Shows.part {n l : Nat} {d : PyData} (h : Shows n l d) : Shows (n + 13) (l + 1) (.dict [(.str (PySem.Str.ofString "part"), d)]) := by
  have h1 := dictText_len_le (PyData.shownKv [(.str (PySem.Str.ofString "part"), d)])
  have h2 : (PyData.shown (.str (PySem.Str.ofString "part"))).length = 6 := by decide +kernel
  have h3 : ((PySem.Str.ofString ": ")).length = 2 := by decide +kernel
  have h4 := h.len
  have h5 := h.dep
  refine ⟨by simp [PyData.showable, PyData.showableKv, h.ok], ?_, ?_⟩
  · simp only [PyData.shown] at h2 ⊢
    simp only [PyData.shownKv, PyData.shown, List.map_cons, List.map_nil, List.sum_cons, List.sum_nil, strLen_append, List.length_cons, List.length_nil] at h1 ⊢
    omega
  · simp only [PyData.depth, PyData.depthKv]
    omega
def spAny (n : Nat) : Sp := fun vs H Q _ => ∃ (dk dl : Addr) (t : Int), vs = [.ref dk, .int (n : Int)] ∧ DeckAt H dk dl t ∧ 0 ≤ t ∧ t + 20 * (n : Int) ≤ 50000 ∧
  ∀ (v : V) (d : PyData) (t' : Int) (H' : Hp), DeckAt H' dk dl t' → t ≤ t' → t' ≤ t + cost n → Keep dk dl H H' → DK (Nw H H') v d → Shows (big n) (2 * n + 1) d → Q v H'
/-- the plain values -/
def plain (p1 p2 p3 : Addr) : List V := [.non, .bl true, .bl false, .int 0, .int 1, .int (-7), .int (10 ^ (39 : Int).toNat), .str (PySem.Str.ofString ""), .str (PySem.Str.ofString "K"), .str (PySem.Str.ofString "lock(a,K)"), .ref p1, .ref p2, .ref p3]
theorem plain_ok {H : Hp} {p1 p2 p3 : Addr} (h1 : H p1 = some (.tup [])) (h2 : H p2 = some (.lst [])) (h3 : H p3 = some (.dK [])) : ∀ y ∈ plain p1 p2 p3, ∃ d, DK H y d ∧ Shows 60 1 d := by
  have leaf : ∀ {d : PyData}, d.showable = true → d.shown.length ≤ 60 → d.depth ≤ 1 → Shows 60 1 d := fun a b c => ⟨a, b, c⟩
  intro y hy
  simp only [plain, List.mem_cons, List.not_mem_nil, or_false] at hy
  rcases hy with rfl | rfl | rfl | rfl | rfl | rfl | rfl | rfl | rfl | rfl | rfl | rfl | rfl
  · exact ⟨_, .non, leaf (by decide +kernel) (by decide +kernel) (by decide +kernel)⟩
  · exact ⟨_, .bl _, leaf (by decide +kernel) (by decide +kernel) (by decide +kernel)⟩
  · exact ⟨_, .bl _, leaf (by decide +kernel) (by decide +kernel) (by decide +kernel)⟩
  · exact ⟨_, .int _, leaf (by decide +kernel) (by decide +kernel) (by decide +kernel)⟩
  · exact ⟨_, .int _, leaf (by decide +kernel) (by decide +kernel) (by decide +kernel)⟩
  · exact ⟨_, .int _, leaf (by decide +kernel) (by decide +kernel) (by decide +kernel)⟩
  · exact ⟨_, .int _, leaf (by decide +kernel) (by decide +kernel) (by decide +kernel)⟩
  · exact ⟨_, .str _, leaf (by decide +kernel) (by decide +kernel) (by decide +kernel)⟩
  · exact ⟨_, .str _, leaf (by decide +kernel) (by decide +kernel) (by decide +kernel)⟩
  · exact ⟨_, .str _, leaf (by decide +kernel) (by decide +kernel) (by decide +kernel)⟩
  · exact ⟨_, .tup h1 .nil, leaf (by decide +kernel) (by decide +kernel) (by decide +kernel)⟩
  · exact ⟨_, .lst h2 .nil, leaf (by decide +kernel) (by decide +kernel) (by decide +kernel)⟩
  · exact ⟨_, .dct0 h3, leaf (by decide +kernel) (by decide +kernel) (by decide +kernel)⟩
theorem pick {xs : List V} {r : Int} (h0 : 0 ≤ r) (h1 : r < (xs.length : Int)) : ∃ y, y ∈ xs ∧ atI xs r = some y := by
  obtain ⟨j, rfl⟩ := Int.eq_ofNat_of_zero_le h0
  have hj : j < xs.length := by omega
  exact ⟨xs[j], List.getElem_mem hj, atI_nat (List.getElem?_eq_getElem hj)⟩
structure TxtA (K : PySem.W.Frag) (mg : Str → Option Value) (fD fA : Addr) : Prop extends TxtD mg where
  range : mg "range" = none
  tuple : mg "tuple" = none
  gD : mg "_law_draw" = some (.ref fD)
  kD : PySem.W.keepIn K (.ref fD) = true
  gA : mg "_law_any" = some (.ref fA)
  kA : PySem.W.keepIn K (.ref fA) = true
section
variable {P : Program} {w : World} {K : PySem.W.Frag} {mg : Str → Option Value} {base : Heap}
theorem scAny : FnScope ["_law_deck_here", "_law_deep", "_law_plain", "_law_way", "_law_inner", "_law_k"] ["_law_deck_here", "_law_deep"] (defScope sAny) := ⟨rfl, rfl, rfl, by decide +kernel, rfl, by decide +kernel, by decide +kernel⟩
theorem ok_any {j n : Nat} (hn : n ≤ 2) {fD fA : Addr} {fdD fdA : FuncData} {sp' : Sp} (F : Fun K "_law_any" "_law_any" sAny fA fdA) (FD : Fun K "_law_draw" "_law_draw" sDraw fD fdD) (bD : Binds K fdD ["_law_deck_here", "_law_below"] []) (bA : Binds K fdA ["_law_deck_here", "_law_deep"] [])
    (T : TxtA K mg fD fA) (G : FnOk P w K mg base CX0 (j + 1) fA fdA ["_law_deck_here", "_law_deep"] sp') (hG : ∀ m, n = m + 1 → ∀ vs H Q E, spAny m vs H Q E → sp' vs H Q E) : FnOk P w K mg base CX0 (j + 2) fA fdA ["_law_deck_here", "_law_deep"] (spAny n) := by
  have GD : FnOk P w K mg base CX0 1 fD fdD ["_law_deck_here", "_law_below"] spDraw := ok_draw FD T.toTxtD
  refine F.ok scAny (fun vs H Q E h => ?_) (fun cdv A outer s H vs Q E hr h => ?_)
  · obtain ⟨dk, dl, t, rfl, _⟩ := h
    rfl
  · obtain ⟨dk, dl, t, rfl, hD, t0, t1, k⟩ := h
    have hu := hu_of hr
    have hr1 : Room 1 _ := hr.mono (by omega)
    refine ⟨_, pss_cons (ps_set (i := 2) scAny.nd rfl (.inl rfl) (pe_lst (pa_cons pe_non (pa_cons pe_bl (pa_cons pe_bl (pa_cons pe_int (pa_cons pe_int (pa_cons (pe_un un_neg pe_int) (pa_cons (pe_op op_pow pe_int pe_int) (pa_cons pe_str (pa_cons pe_str (pa_cons pe_str (pa_cons (pe_tup pa_nil) (pa_cons (pe_lst pa_nil) (pa_cons pe_dnewK pa_nil)))))))))))))))
      (pss_cons (ps_set (i := 3) scAny.nd rfl (.inl rfl) (pe_call GD hr1 rfl T.gD T.kD bD .nil pass0 (pa_cons (pv 0) (pa_cons (pe_ifExp (pt_cmpR op_gt (pv 1) pe_int (nomark _)) pe_int pe_int) pa_nil))))
      (pss_cons (ps_if (pt_cmpR op_lt (pv 3) pe_int (nomark _)) (pss_one (ps_ret (pe_ix ix_list (pv 2) (pv 3) (fun _ _ => rfl)))) pss_nil)
      (pss_cons (ps_setLc (i := 4) (own := [("_law_k", 5)]) (g := gName 5) (tt := tYes) rfl scAny.nd rfl rfl (sw_true rfl rfl rfl (by decide +kernel)) (pi_range1 rfl T.range (pa_cons (pe_op op_add pe_int (pe_call GD hr1 rfl T.gD T.kD bD .nil pass0 (pa_cons (pv 0) (pa_cons pe_int pa_nil)))) pa_nil))
        (blkOk_by (own := [("_law_k", 5)]) (N := ["_law_deck_here", "_law_deep", "_law_plain", "_law_way", "_law_inner", "_law_k"]) (sc := defScope sAny) (by decide +kernel)) (fun _ _ _ _ _ => pg_name (i := 5) scAny.nd rfl (Or.inl rfl)) (fun _ _ _ _ _ => pts_nil)
        (fun _ _ _ _ _ => pe_call G hr rfl T.gA T.kA bA .nil pass0 (pa_cons (pv 0) (pa_cons (pe_op op_sub (pv 1) pe_int) pa_nil))))
      (pss_one (ps_ret (pe_ix ix_list (pe_lst (pa_cons (pv 4) (pa_cons (pe_callTy call_tuple_of (by rfl) T.tuple (by decide +kernel) (pa_cons (pv 4) pa_nil)) (pa_cons (pe_disp (pps_cons pe_str (pv 4) pps_nil) (by rfl) (by rfl) (fun z => by cases z) (by decide)) pa_nil)))) (pe_op op_sub (pv 3) pe_int) (fun _ _ => rfl))))))), ?_⟩
    refine ⟨_, rfl, _, _, rfl, rfl, ⟨by decide, by decide, by decide⟩, ?_⟩
    refine ⟨(by show 0 ≤ sizeLine; exact Nat.zero_le _), fun p1 e1 => ⟨(by show 0 ≤ sizeLine; exact Nat.zero_le _), fun p2 e2 => ?_⟩⟩
    intro p3 e3
    refine ⟨(by show 13 ≤ sizeLine; rw [sizeLine_eq]; decide), fun p4 e4 => ?_⟩
    -- the heap with the plain values
    have q1 : upd (upd (upd (upd H p1 (.tup [])) p2 (.lst [])) p3 (.dK [])) p4 (.lst (plain p1 p2 p3)) p1 = some (.tup []) := by
      have x1 : upd H p1 (.tup []) p1 = some (.tup []) := upd_same
      have x2 := (upd_ne (o := .lst []) (ne_of_none x1 e2)).trans x1
      have x3 := (upd_ne (o := .dK []) (ne_of_none x2 e3)).trans x2
      exact (upd_ne (ne_of_none x3 e4)).trans x3
    have q2 : upd (upd (upd (upd H p1 (.tup [])) p2 (.lst [])) p3 (.dK [])) p4 (.lst (plain p1 p2 p3)) p2 = some (.lst []) := by
      have x2 : upd (upd H p1 (.tup [])) p2 (.lst []) p2 = some (.lst []) := upd_same
      have x3 := (upd_ne (o := .dK []) (ne_of_none x2 e3)).trans x2
      exact (upd_ne (ne_of_none x3 e4)).trans x3
    have q3 : upd (upd (upd (upd H p1 (.tup [])) p2 (.lst [])) p3 (.dK [])) p4 (.lst (plain p1 p2 p3)) p3 = some (.dK []) := by
      have x3 : upd (upd (upd H p1 (.tup [])) p2 (.lst [])) p3 (.dK []) p3 = some (.dK []) := upd_same
      exact (upd_ne (ne_of_none x3 e4)).trans x3
    have q4 : upd (upd (upd (upd H p1 (.tup [])) p2 (.lst [])) p3 (.dK [])) p4 (.lst (plain p1 p2 p3)) p4 = some (.lst (plain p1 p2 p3)) := upd_same
    have kq : Keep dk dl H (upd (upd (upd (upd H p1 (.tup [])) p2 (.lst [])) p3 (.dK [])) p4 (.lst (plain p1 p2 p3))) := (((Keep.refl.new e1).new e2).new e3).new e4
    have dq : DeckAt (upd (upd (upd (upd H p1 (.tup [])) p2 (.lst [])) p3 (.dK [])) p4 (.lst (plain p1 p2 p3))) dk dl t := (((hD.new e1).new e2).new e3).new e4
    have n1 : H p1 = none := e1
    have n2 : H p2 = none := (Keep.refl.new e1 : Keep dk dl H _) |> fun kk => hD.dom (hD.new e1) kk _ e2
    have n3 : H p3 = none := hD.dom ((hD.new e1).new e2) ((Keep.refl.new e1).new e2) _ e3
    have n4 : H p4 = none := hD.dom (((hD.new e1).new e2).new e3) (((Keep.refl.new e1).new e2).new e3) _ e4
    show gName 2 _ _ (upd (upd (upd (upd H p1 (.tup [])) p2 (.lst [])) p3 (.dK [])) p4 (.lst (plain p1 p2 p3))) _
    generalize upd (upd (upd (upd H p1 (.tup [])) p2 (.lst [])) p3 (.dK [])) p4 (.lst (plain p1 p2 p3)) = H1 at q1 q2 q3 q4 kq dq
    -- a plain value is given
    have give : ∀ (r : Int) (H' : Hp), 0 ≤ r → r < 13 → DeckAt H' dk dl (t + 1) → Keep dk dl H1 H' → ∃ y, atI (plain p1 p2 p3) r = some y ∧ H' p4 = some (.lst (plain p1 p2 p3)) ∧ Q y H' := by
      intro r H' r0 r1 D' K'
      have off : ∀ {b : Addr}, H b = none → b ≠ dk ∧ b ≠ dl := fun h => hD.off h
      have up : ∀ {b : Addr} {o : HO}, H b = none → H1 b = some o → Nw H H' b = some o := fun n e => Nw.at n (K' _ _ (off n).1 (off n).2 e)
      obtain ⟨y, hy, ha⟩ := pick (xs := plain p1 p2 p3) r0 (by show r < 13; exact r1)
      obtain ⟨d, h1, h2⟩ := plain_ok (H := Nw H H') (up n1 q1) (up n2 q2) (up n3 q3) y hy
      have c0 : (1 : Int) ≤ cost n := by
        match n, hn with
        | 0, _ => decide
        | 1, _ => decide
        | 2, _ => decide
      have b0 : 60 ≤ big n := by
        match n, hn with
        | 0, _ => decide
        | 1, _ => decide
        | 2, _ => decide
      exact ⟨y, ha, K' _ _ (off n4).1 (off n4).2 q4, k y d (t + 1) H' D' (by omega) (by omega) (kq.trans K') h1 (h2.up b0 (by omega))⟩
    refine ⟨_, rfl, _, rfl, _, _, rfl, rfl, _, rfl, ?_⟩
    refine ite2 (fun hpos => ?_) (fun hzero => ?_)
    rotate_left
    · refine ⟨dk, dl, 13, t, rfl, dq, by decide, by decide, t0, by omega, fun r H' r0 r1 D' K' => ?_⟩
      obtain ⟨y, ya, y4, yq⟩ := give r H' r0 r1 D' K'
      exact ⟨_, rfl, _, _, rfl, rfl, _, rfl, ite2 (fun _ => ⟨_, rfl, _, rfl, p4, _, _, _, rfl, rfl, .inl (.inl y4), ya, yq⟩) fun z => absurd (decide_eq_true r1) z⟩
    · refine ⟨dk, dl, 16, t, rfl, dq, by decide, by decide, t0, by omega, fun r H2 r0 r1 D2 K2 => ?_⟩
      refine ⟨_, rfl, _, _, rfl, rfl, _, rfl, ?_⟩
      refine ite2 (fun hlow => ?_) (fun hhigh => ?_)
      · obtain ⟨y, ya, y4, yq⟩ := give r H2 r0 (of_decide_eq_true hlow) D2 K2
        exact ⟨_, rfl, _, rfl, p4, _, _, _, rfl, rfl, .inl (.inl y4), ya, yq⟩
      · have r13 : 13 ≤ r := by
          have z : ¬ r < 13 := fun z => hhigh (decide_eq_true z)
          omega
        obtain ⟨m, rfl⟩ : ∃ m, n = m + 1 := ⟨n - 1, by have := of_decide_eq_true hpos; omega⟩
        have c0 : (1 : Int) ≤ cost m := by
          match m, hn with
          | 0, _ => decide
          | 1, _ => decide
        have c1 : cost m ≤ 5 := by
          match m, hn with
          | 0, _ => decide
          | 1, _ => decide
        refine ⟨_, rfl, dk, dl, 3, t + 1, rfl, D2, by decide, by decide, by omega, by omega, fun q H3 q0 q1 D3 K3 => ⟨_, _, rfl, rfl, _, rfl, by omega, by omega, fun D hD3 => ?_⟩⟩
        have hk : ((1 + q).toNat : Int) = 1 + q := by omega
        have nD : H D = none := hD.dom D3 ((kq.trans K2).trans K3) D hD3
        have kD : Keep dk dl H (upd H3 D (.lst [])) := ((kq.trans K2).trans K3).new hD3
        refine lc_range (lo := 0) (n := (1 + q).toNat) (fun i H4 => ∃ (vs : List V) (ds : List PyData) (t3 : Int), H4 D = some (.lst vs) ∧ vs.length = i ∧ DKs (Nw (upd H D (.lst [])) H4) vs ds ∧ ShowsAll (big m) (2 * m + 1) i ds ∧ DeckAt H4 dk dl t3 ∧ t + 2 ≤ t3 ∧ t3 ≤ t + 2 + (i : Int) * cost m ∧ Keep dk dl H H4)
          ⟨[], [], t + 1 + 1, upd_same, rfl, .nil, .nil, D3.new hD3, by omega, by simp; omega, kD⟩ ?_ ?_
        · rintro i H4 hi ⟨vs, ds, t3, hv, hl, hds, hsh, D4, ta, tb, K4⟩
          have hi' : (i : Int) ≤ 3 := by omega
          have hic : (i : Int) * cost m ≤ 15 := by
            have z1 : (i : Int) * cost m ≤ 3 * cost m := Int.mul_le_mul_of_nonneg_right hi' (by omega)
            omega
          refine ⟨rfl, ?_⟩
          unfold tYes
          dsimp only
          rw [if_pos rfl]
          refine ⟨_, rfl, _, rfl, _, _, rfl, rfl, hG m rfl _ _ _ _ ⟨dk, dl, t3, ?_, D4, by omega, by omega, fun v d t4 H5 D5 tc td K5 hv5 hs5 => ?_⟩⟩
          · show [V.ref dk, V.int (((m + 1 : Nat) : Int) - 1)] = [V.ref dk, V.int (m : Int)]
            have z : ((m + 1 : Nat) : Int) - 1 = (m : Int) := by omega
            rw [z]
          · have oD := hD.off nD
            have hv' : H5 D = some (.lst vs) := K5 _ _ oD.1 oD.2 hv
            refine ⟨vs, hv', by rw [sizeLine_eq]; omega, vs ++ [v], ds ++ [d], t4, upd_same, by rw [List.length_append, hl]; rfl, ?_, hsh.snoc hs5, ?_, by omega, ?_, ?_⟩
            · have dom : ∀ b, H4 b = none → upd H D (.lst []) b = none := fun b z => by
                have z1 : b ≠ D := fun y => by
                  rw [y, hv] at z
                  cases z
                rw [upd_ne z1]
                exact hD.dom D4 K4 b z
              have old : ∀ b o, upd H D (.lst []) b = none → H4 b = some o → upd H5 D (.lst (vs ++ [v])) b = some o := fun b o z e => by
                have z1 : b ≠ D := fun y => by
                  rw [y, upd_same] at z
                  cases z
                have z2 : H b = none := (upd_ne z1).symm.trans z
                rw [upd_ne z1]
                exact K5 b o (hD.off z2).1 (hD.off z2).2 e
              have new : ∀ b o, H4 b = none → H5 b = some o → upd H5 D (.lst (vs ++ [v])) b = some o := fun b o z e => by
                have z1 : b ≠ D := fun y => by
                  rw [y, hv] at z
                  cases z
                rw [upd_ne z1]
                exact e
              exact (DKs.keeps (Nw.mono (fun _ z => z) old) _ _ hds).snoc' (DK.keeps (Nw.mono dom new) _ _ hv5)
            · obtain ⟨⟨mm, x1, x2, x3⟩, ⟨cc, x4, x5⟩⟩ := D5
              exact ⟨⟨mm, (upd_ne oD.1.symm).trans x1, x2, x3⟩, ⟨cc, (upd_ne oD.2.symm).trans x4, x5⟩⟩
            · have z : ((i + 1 : Nat) : Int) * cost m = (i : Int) * cost m + cost m := by
                rw [Int.natCast_succ, Int.add_mul, Int.one_mul]
              omega
            · exact fun b o h1 h2 e => by
                have z1 : b ≠ D := fun y => by
                  rw [y, nD] at e
                  cases e
                rw [upd_ne z1]
                exact K5 b o h1 h2 (K4 b o h1 h2 e)
        · rintro H4 ⟨vs, ds, t3, hv, hl, hds, hsh, D4, ta, tb, K4⟩
          have hk3 : (1 + q).toNat ≤ 3 := by omega
          have tl : ((1 + q).toNat : Int) * cost m ≤ 3 * cost m := Int.mul_le_mul_of_nonneg_right (by omega) (by omega)
          refine ⟨_, rfl, _, rfl, D, vs, rfl, .inl ⟨SqL.of hv, fun p5 e5 => ?_⟩⟩
          intro p6 e6
          refine ⟨_, rfl, upd_same, [(Sum.inr (PySem.Str.ofString "part"), .ref D)], rfl, (by show 1 ≤ 15; decide), ?_⟩
          have mg1 : mergeK [] [((Sum.inr (PySem.Str.ofString "part") : Key), V.ref D)] = [(Sum.inr (PySem.Str.ofString "part"), V.ref D)] := rfl
          rw [mg1, upd_upd]
          refine ⟨(by show 3 ≤ sizeLine; rw [sizeLine_eq]; decide), fun p7 e7 => ?_⟩
          have w0 := (upd_ne (o := .tup vs) (ne_of_none hv e5)).trans hv
          have w1 := (upd_ne (o := .dK [(Sum.inr (PySem.Str.ofString "part"), .ref D)]) (ne_of_none w0 e6)).trans w0
          have w2 := (upd_ne (o := .lst [V.ref D, V.ref p5, V.ref p6]) (ne_of_none w1 e7)).trans w1
          have u0 : upd H4 p5 (.tup vs) p5 = some (.tup vs) := upd_same
          have u1 := (upd_ne (o := .dK [(Sum.inr (PySem.Str.ofString "part"), .ref D)]) (ne_of_none u0 e6)).trans u0
          have u2 := (upd_ne (o := .lst [V.ref D, V.ref p5, V.ref p6]) (ne_of_none u1 e7)).trans u1
          have v1 : upd (upd H4 p5 (.tup vs)) p6 (.dK [(Sum.inr (PySem.Str.ofString "part"), .ref D)]) p6 = _ := upd_same
          have v2 := (upd_ne (o := .lst [V.ref D, V.ref p5, V.ref p6]) (ne_of_none v1 e7)).trans v1
          have kk : Keep dk dl H (upd (upd (upd H4 p5 (.tup vs)) p6 (.dK [(Sum.inr (PySem.Str.ofString "part"), .ref D)])) p7 (.lst [V.ref D, V.ref p5, V.ref p6])) := ((K4.new e5).new e6).new e7
          have kk4 : Keep dk dl H4 (upd (upd (upd H4 p5 (.tup vs)) p6 (.dK [(Sum.inr (PySem.Str.ofString "part"), .ref D)])) p7 (.lst [V.ref D, V.ref p5, V.ref p6])) := ((Keep.refl.new e5).new e6).new e7
          have d7 : DeckAt (upd (upd (upd H4 p5 (.tup vs)) p6 (.dK [(Sum.inr (PySem.Str.ofString "part"), .ref D)])) p7 (.lst [V.ref D, V.ref p5, V.ref p6])) dk dl t3 := ((D4.new e5).new e6).new e7
          have m5 : H p5 = none := hD.dom D4 K4 p5 e5
          have m6 : H p6 = none := hD.dom (D4.new e5) (K4.new e5) p6 e6
          have s7 : upd (upd (upd H4 p5 (.tup vs)) p6 (.dK [(Sum.inr (PySem.Str.ofString "part"), .ref D)])) p7 (.lst [V.ref D, V.ref p5, V.ref p6]) p7 = some (.lst [V.ref D, V.ref p5, V.ref p6]) := upd_same
          generalize upd (upd (upd H4 p5 (.tup vs)) p6 (.dK [(Sum.inr (PySem.Str.ofString "part"), .ref D)])) p7 (.lst [V.ref D, V.ref p5, V.ref p6]) = H7 at w2 u2 v2 kk kk4 d7 s7
          have items : DKs (Nw H H7) vs ds := DKs.keeps (Nw.mono (fun b z => by
              by_cases y : b = D
              · rw [y]; exact nD
              · exact (upd_ne y).symm.trans z) fun b o z e => by
            have z1 : b ≠ D := fun y => by
              rw [y, upd_same] at z
              cases z
            have z2 : H b = none := (upd_ne z1).symm.trans z
            exact kk4 b o (hD.off z2).1 (hD.off z2).2 e) _ _ hds
          have isL : DK (Nw H H7) (.ref D) (.list ds) := .lst (Nw.at nD w2) items
          have shL := hsh.list hk3
          have cs : cost (m + 1) = 2 + 3 * cost m := rfl
          have bs : big (m + 1) = 3 * big m + 40 := rfl
          have all : ∀ y ∈ [V.ref D, V.ref p5, V.ref p6], ∃ d, DK (Nw H H7) y d ∧ Shows (big (m + 1)) (2 * (m + 1) + 1) d := by
            intro y hy
            simp only [List.mem_cons, List.not_mem_nil, or_false] at hy
            rcases hy with rfl | rfl | rfl
            · exact ⟨_, isL, shL.up (by omega) (by omega)⟩
            · exact ⟨_, .tup (Nw.at m5 u2) items, (hsh.tuple hk3).up (by omega) (by omega)⟩
            · exact ⟨_, .dct1 (Nw.at m6 v2) isL, shL.part.up (by omega) (by omega)⟩
          obtain ⟨y, hy, ha⟩ := pick (xs := [V.ref D, V.ref p5, V.ref p6]) (r := r - 13) (by omega) (by show r - 13 < 3; omega)
          obtain ⟨d, g1, g2⟩ := all y hy
          exact ⟨_, rfl, _, _, rfl, rfl, p7, _, _, _, rfl, rfl, SqL.of s7, ha, k y d t3 H7 d7 (by omega) (by omega) kk g1 g2⟩
end
end K01

set_option Elab.async false
set_option linter.all false
set_option maxRecDepth 100000
set_option maxHeartbeats 4000000
/-! The nine errors, made by position and by name. -/
namespace K01
open PySem PySem.Spec PyProof.Rows L2 Mine
abbrev sMade : Stmt := top 16
abbrev sNamed : Stmt := top 17
/-- the field of the error at a place -/
def fld : Nat → Str
  | 1 => PySem.Str.ofString "thing"
  | 3 => PySem.Str.ofString "line"
  | 4 => PySem.Str.ofString "paper"
  | _ => PySem.Str.ofString "part"
/-- what the top says of the nine -/
structure TxtE (K : PySem.W.Frag) (mg : Str → Option Value) (c ini : Nat → Addr) (se : Addr) : Prop where
  e0 : ErrF K mg "BadBook" "part" (c 0) (ini 0)
  e1 : ErrF K mg "BadThing" "thing" (c 1) (ini 1)
  e2 : ErrF K mg "BadRow" "part" (c 2) (ini 2)
  e3 : ErrF K mg "BadText" "line" (c 3) (ini 3)
  e4 : ErrF K mg "NotHad" "paper" (c 4) (ini 4)
  e5 : ErrF K mg "Mismatch" "part" (c 5) (ini 5)
  e6 : ErrN K mg "NothingToUndo" (c 6)
  e7 : ErrN K mg "NothingToRedo" (c 7)
  e8 : ErrN K mg "InvalidCommand" (c 8)
  gS : mg "SealError" = some (.ref se)
  kit : ∀ i j, i < 9 → j < 9 → PySem.W.kitOne K (.ref (c i)) (.ref (c j)) = some (decide (i = j))
  kitS : ∀ i, i < 9 → PySem.W.kitOne K (.ref (c i)) (.ref se) = some true
  kitE : ∀ i, i < 9 → PySem.W.kitOne K (.ref (c i)) (.type "Exception") = some true
  kitN : ∀ i, i < 9 → PySem.W.kitAny K (.ref (c i)) [.type "ValueError", .type "LookupError", .type "ArithmeticError", .type "TypeError", .type "AttributeError", .type "RuntimeError"] = some false
  exm : ∀ i j, i < 9 → j < 9 → PySem.W.exmOne K (.ref (c i)) (.ref (c j)) = some (decide (i = j))
  exmS : ∀ i, i < 9 → PySem.W.exmOne K (.ref (c i)) (.ref se) = some true
theorem TxtE.all {K : PySem.W.Frag} {mg : Str → Option Value} {c ini : Nat → Addr} {se : Addr} (T : TxtE K mg c ini se) : ∀ i, i < 9 → ErrA K (c i)
  | 0, _ => T.e0.toErrA
  | 1, _ => T.e1.toErrA
  | 2, _ => T.e2.toErrA
  | 3, _ => T.e3.toErrA
  | 4, _ => T.e4.toErrA
  | 5, _ => T.e5.toErrA
  | 6, _ => T.e6.toErrA
  | 7, _ => T.e7.toErrA
  | 8, _ => T.e8.toErrA
/-- the error at a place, made of v -/
def ErrAt (H : Hp) (c : Nat → Addr) (i : Nat) (e : Addr) (v : V) : Prop := (i < 6 ∧ ∃ dx, EAt H e (c i) (some (dx, [(fld i, v)]))) ∨ (6 ≤ i ∧ EAt H e (c i) none)
theorem EAt.same {H H' : Hp} (k : Same H H') {a C : Addr} : ∀ {o : Option (Addr × List (Str × V))}, EAt H a C o → EAt H' a C o
  | none, h => k _ _ h
  | some (_, _), h => ⟨k _ _ h.1, k _ _ h.2⟩
theorem ErrAt.same {H H' : Hp} (k : Same H H') {c : Nat → Addr} {i : Nat} {e : Addr} {v : V} (h : ErrAt H c i e v) : ErrAt H' c i e v := by
  rcases h with ⟨h1, dx, h2⟩ | ⟨h1, h2⟩
  · exact .inl ⟨h1, dx, EAt.same k h2⟩
  · exact .inr ⟨h1, EAt.same k h2⟩
theorem same_rfl {H : Hp} : Same H H := fun _ _ e => e
theorem same_tr {H H1 H2 : Hp} (a : Same H H1) (b : Same H1 H2) : Same H H2 := fun p o e => b p o (a p o e)
theorem same_err {H : Hp} {a dx C : Addr} {f : Str} {v : V} (ha : H a = none) (hd : H dx = none) : Same H (eUp H a dx C f v) := fun b o e => (eUp_ne (ne_of_none e ha) (ne_of_none e hd)).trans e
theorem same_free {H H' : Hp} (k : Same H H') {b : Addr} (e : H' b = none) : H b = none := by
  cases z : H b with
  | none => rfl
  | some o =>
    rw [k b o z] at e
    cases e
def spMade (c : Nat → Addr) : Sp := fun vs H Q _ => ∃ (i : Nat) (v : V), vs = [.int (i : Int), v] ∧ i < 9 ∧ ∀ (e : Addr) (H' : Hp), Same H H' → ErrAt H' c i e v → Q (.ref e) H'
section
variable {P : Program} {w : World} {K : PySem.W.Frag} {mg : Str → Option Value} {base : Heap} {c ini : Nat → Addr} {se : Addr}
theorem scMade : FnScope ["_law_spot", "_law_it"] ["_law_spot", "_law_it"] (defScope sMade) := ⟨rfl, rfl, rfl, by decide +kernel, rfl, by decide +kernel, by decide +kernel⟩
theorem ok_made {f : Addr} {fd : FuncData} (F : Fun K "_law_made" "_law_made" sMade f fd) (T : TxtE K mg c ini se) : FnOk P w K mg base CX0 1 f fd ["_law_spot", "_law_it"] (spMade c) := by
  refine F.ok scMade (fun vs H Q E h => ?_) (fun cdv A outer s H vs Q E hr h => ?_)
  · obtain ⟨i, v, rfl, _⟩ := h
    rfl
  · obtain ⟨i, v, rfl, hi, k⟩ := h
    have room : (A.deeper (envOfC "_law_made" (defScope sMade) s.heap.objs.size f cdv)).depth + 1 < recursionLimit := by have := hr.dp; omega
    refine ⟨_, pss_cons (ps_if (pt_cmpR op_lt (pv 0) pe_int (nomark _)) (pss_one (ps_ret (pe_ix ix_list (pe_lst
        (pa_cons (pe_err T.e0 room (pa_cons (pv 1) pa_nil) rfl) (pa_cons (pe_err T.e1 room (pa_cons (pv 1) pa_nil) rfl) (pa_cons (pe_err T.e2 room (pa_cons (pv 1) pa_nil) rfl)
        (pa_cons (pe_err T.e3 room (pa_cons (pv 1) pa_nil) rfl) (pa_cons (pe_err T.e4 room (pa_cons (pv 1) pa_nil) rfl) (pa_cons (pe_err T.e5 room (pa_cons (pv 1) pa_nil) rfl) pa_nil))))))) (pv 0) (fun _ _ => rfl)))) pss_nil)
      (pss_one (ps_ret (pe_ix ix_list (pe_lst (pa_cons (pe_err0 T.e6 rfl) (pa_cons (pe_err0 T.e7 rfl) (pa_cons (pe_err0 T.e8 rfl) pa_nil)))) (pe_op op_sub (pv 0) pe_int) (fun _ _ => rfl)))), ?_⟩
    refine ⟨_, rfl, _, _, rfl, rfl, _, rfl, ite2 (fun h6 => ?_) (fun h6 => ?_)⟩
    · have h6' : i < 6 := by have := of_decide_eq_true h6; omega
      refine ⟨_, rfl, _, rfl, fun a0 d0 x0 y0 z0 => ?_⟩
      refine ⟨_, rfl, _, rfl, fun a1 d1 x1 y1 z1 => ?_⟩
      refine ⟨_, rfl, _, rfl, fun a2 d2 x2 y2 z2 => ?_⟩
      refine ⟨_, rfl, _, rfl, fun a3 d3 x3 y3 z3 => ?_⟩
      refine ⟨_, rfl, _, rfl, fun a4 d4 x4 y4 z4 => ?_⟩
      refine ⟨_, rfl, _, rfl, fun a5 d5 x5 y5 z5 => ?_⟩
      refine ⟨(by show 6 ≤ sizeLine; rw [sizeLine_eq]; decide), fun p hp => ?_⟩
      have s0 := same_err (C := c 0) (f := fld 0) (v := v) x0 y0
      have s1 := same_err (C := c 1) (f := fld 1) (v := v) x1 y1
      have s2 := same_err (C := c 2) (f := fld 2) (v := v) x2 y2
      have s3 := same_err (C := c 3) (f := fld 3) (v := v) x3 y3
      have s4 := same_err (C := c 4) (f := fld 4) (v := v) x4 y4
      have s5 := same_err (C := c 5) (f := fld 5) (v := v) x5 y5
      have s6 := same_new (o := .lst [.ref a0, .ref a1, .ref a2, .ref a3, .ref a4, .ref a5]) (fun _ _ e => e) hp
      have t5 := s6
      have t4 := same_tr s5 t5
      have t3 := same_tr s4 t4
      have t2 := same_tr s3 t3
      have t1 := same_tr s2 t2
      have t0 := same_tr s1 t1
      have g : ∀ j, j < 6 → ∃ e, ([V.ref a0, .ref a1, .ref a2, .ref a3, .ref a4, .ref a5] : List V)[j]? = some (.ref e) ∧ ErrAt _ c j e v := fun j hj => match j, hj with
        | 0, _ => ⟨a0, rfl, .inl ⟨by decide, d0, EAt.same t0 (eUp_at z0)⟩⟩
        | 1, _ => ⟨a1, rfl, .inl ⟨by decide, d1, EAt.same t1 (eUp_at z1)⟩⟩
        | 2, _ => ⟨a2, rfl, .inl ⟨by decide, d2, EAt.same t2 (eUp_at z2)⟩⟩
        | 3, _ => ⟨a3, rfl, .inl ⟨by decide, d3, EAt.same t3 (eUp_at z3)⟩⟩
        | 4, _ => ⟨a4, rfl, .inl ⟨by decide, d4, EAt.same t4 (eUp_at z4)⟩⟩
        | 5, _ => ⟨a5, rfl, .inl ⟨by decide, d5, EAt.same t5 (eUp_at z5)⟩⟩
      obtain ⟨e, he, hE⟩ := g i h6'
      exact ⟨_, rfl, p, _, _, _, rfl, rfl, SqL.of upd_same, atI_nat he, k e _ (same_tr s0 t0) hE⟩
    · have h6' : 6 ≤ i := by
        have z : ¬ (i : Int) < 6 := fun z => h6 (decide_eq_true z)
        omega
      intro a6 x6 a7 x7 a8 x8
      refine ⟨(by show 3 ≤ sizeLine; rw [sizeLine_eq]; decide), fun p hp => ?_⟩
      have s6 : Same _ _ := same_new (o := exo a6 (c 6) none) (fun _ _ e => e) x6
      have s7 : Same _ _ := same_new (o := exo a7 (c 7) none) (fun _ _ e => e) x7
      have s8 : Same _ _ := same_new (o := exo a8 (c 8) none) (fun _ _ e => e) x8
      have s9 : Same _ _ := same_new (o := .lst [.ref a6, .ref a7, .ref a8]) (fun _ _ e => e) hp
      have t8 := s9
      have t7 := same_tr s8 t8
      have t6 := same_tr s7 t7
      have g : ∀ j, j < 3 → ∃ e, ([V.ref a6, .ref a7, .ref a8] : List V)[j]? = some (.ref e) ∧ ErrAt _ c (j + 6) e v := fun j hj => match j, hj with
        | 0, _ => ⟨a6, rfl, .inr ⟨by decide, EAt.same (o := none) t6 upd_same⟩⟩
        | 1, _ => ⟨a7, rfl, .inr ⟨by decide, EAt.same (o := none) t7 upd_same⟩⟩
        | 2, _ => ⟨a8, rfl, .inr ⟨by decide, EAt.same (o := none) t8 upd_same⟩⟩
      obtain ⟨e, he, hE⟩ := g (i - 6) (by omega)
      have ei : ((i : Int) - 6) = ((i - 6 : Nat) : Int) := by omega
      have ej : i - 6 + 6 = i := by omega
      rw [ej] at hE
      exact ⟨_, rfl, _, _, rfl, rfl, p, _, _, _, rfl, rfl, SqL.of upd_same, (by rw [ei]; exact atI_nat he), k e _ (same_tr s6 t6) hE⟩
end
end K01

set_option Elab.async false
set_option linter.all false
set_option maxRecDepth 100000
set_option maxHeartbeats 4000000
/-! Errors made by name; to which classes one belongs; what one holds; raised and caught. -/
namespace K01
open PySem PySem.Spec PyProof.Rows L2 Mine
abbrev sClasses : Stmt := top 18
abbrev sHeld : Stmt := top 19
abbrev sRaised : Stmt := top 20
abbrev sCaught : Stmt := top 21
theorem ErrAt.eat {H : Hp} {c : Nat → Addr} {i : Nat} {e : Addr} {v : V} (h : ErrAt H c i e v) : ∃ o, EAt H e (c i) o := by
  rcases h with ⟨_, dx, h⟩ | ⟨_, h⟩
  · exact ⟨_, h⟩
  · exact ⟨_, h⟩
def spClasses (c : Nat → Addr) : Sp := fun vs H Q _ => ∃ (i : Nat) (e : Addr) (v : V), vs = [.ref e] ∧ i < 9 ∧ ErrAt H c i e v ∧
  ∀ (p : Addr) (H' : Hp), Same H H' → H' p = some (.lst ((List.range 9).map fun j => V.bl (decide (i = j)))) → Q (.ref p) H'
def spHeld (c : Nat → Addr) : Sp := fun vs H Q _ => ∃ (i : Nat) (e : Addr) (v : V), vs = [.int (i : Int), .ref e] ∧ i < 9 ∧ ErrAt H c i e v ∧
  ∀ (p : Addr) (H' : Hp), Same H H' → H' p = some (.lst (if i < 6 then [v] else [])) → Q (.ref p) H'
structure TxtB (mg : Str → Option Value) : Prop where
  isi : mg "isinstance" = none
section
variable {P : Program} {w : World} {K : PySem.W.Frag} {mg : Str → Option Value} {base : Heap} {c ini : Nat → Addr} {se : Addr}
theorem scNamed : FnScope ["_law_spot", "_law_it", "_law_some"] ["_law_spot", "_law_it"] (defScope sNamed) := ⟨rfl, rfl, rfl, by decide +kernel, rfl, by decide +kernel, by decide +kernel⟩
theorem ok_named {f : Addr} {fd : FuncData} (F : Fun K "_law_named" "_law_named" sNamed f fd) (T : TxtE K mg c ini se) : FnOk P w K mg base CX0 1 f fd ["_law_spot", "_law_it"] (spMade c) := by
  refine F.ok scNamed (fun vs H Q E h => ?_) (fun cdv A outer s H vs Q E hr h => ?_)
  · obtain ⟨i, v, rfl, _⟩ := h
    rfl
  · obtain ⟨i, v, rfl, hi, k⟩ := h
    have room : (A.deeper (envOfC "_law_named" (defScope sNamed) s.heap.objs.size f cdv)).depth + 1 < recursionLimit := by have := hr.dp; omega
    refine ⟨_, pss_cons (ps_if (pt_cmpR op_lt (pv 0) pe_int (nomark _))
        (pss_cons (ps_set (i := 2) scNamed.nd rfl (.inl rfl) (pe_lst
          (pa_cons (pe_errK T.e0 room (pk_cons (pv 1) pk_nil) rfl) (pa_cons (pe_errK T.e1 room (pk_cons (pv 1) pk_nil) rfl) (pa_cons (pe_errK T.e2 room (pk_cons (pv 1) pk_nil) rfl)
          (pa_cons (pe_errK T.e3 room (pk_cons (pv 1) pk_nil) rfl) (pa_cons (pe_errK T.e4 room (pk_cons (pv 1) pk_nil) rfl) pa_nil)))))))
        (pss_one (ps_ret (pe_ix ix_list (pe_op op_cat (pv 2) (pe_lst (pa_cons (pe_errK T.e5 room (pk_cons (pv 1) pk_nil) rfl) pa_nil))) (pv 0) (fun _ _ => rfl))))) pss_nil)
      (pss_one (ps_ret (pe_ix ix_list (pe_lst (pa_cons (pe_err0 T.e6 rfl) (pa_cons (pe_err0 T.e7 rfl) (pa_cons (pe_err0 T.e8 rfl) pa_nil)))) (pe_op op_sub (pv 0) pe_int) (fun _ _ => rfl)))), ?_⟩
    refine ⟨_, rfl, _, _, rfl, rfl, _, rfl, ite2 (fun h6 => ?_) (fun h6 => ?_)⟩
    · have h6' : i < 6 := by have := of_decide_eq_true h6; omega
      refine ⟨_, rfl, _, rfl, fun a0 d0 x0 y0 z0 => ?_⟩
      refine ⟨_, rfl, _, rfl, fun a1 d1 x1 y1 z1 => ?_⟩
      refine ⟨_, rfl, _, rfl, fun a2 d2 x2 y2 z2 => ?_⟩
      refine ⟨_, rfl, _, rfl, fun a3 d3 x3 y3 z3 => ?_⟩
      refine ⟨_, rfl, _, rfl, fun a4 d4 x4 y4 z4 => ?_⟩
      refine ⟨(by show 5 ≤ sizeLine; rw [sizeLine_eq]; decide), fun p hp => ?_⟩
      have s0 := same_err (C := c 0) (f := fld 0) (v := v) x0 y0
      have s1 := same_err (C := c 1) (f := fld 1) (v := v) x1 y1
      have s2 := same_err (C := c 2) (f := fld 2) (v := v) x2 y2
      have s3 := same_err (C := c 3) (f := fld 3) (v := v) x3 y3
      have s4 := same_err (C := c 4) (f := fld 4) (v := v) x4 y4
      have s5 := same_new (o := .lst [.ref a0, .ref a1, .ref a2, .ref a3, .ref a4]) (fun _ _ e => e) hp
      have hp1 : upd (eUp (eUp (eUp (eUp (eUp H a0 d0 (c 0) (fld 0) v) a1 d1 (c 1) (fld 1) v) a2 d2 (c 2) (fld 2) v) a3 d3 (c 3) (fld 3) v) a4 d4 (c 4) (fld 4) v) p (.lst [.ref a0, .ref a1, .ref a2, .ref a3, .ref a4]) p = some (.lst [.ref a0, .ref a1, .ref a2, .ref a3, .ref a4]) := upd_same
      refine ⟨_, rfl, _, rfl, _, rfl, fun a5 d5 x5 y5 z5 => ?_⟩
      refine ⟨(by show 1 ≤ sizeLine; rw [sizeLine_eq]; decide), fun p2 hp2 => ?_⟩
      have s6 := same_err (C := c 5) (f := fld 5) (v := v) x5 y5
      have s7 := same_new (o := .lst [.ref a5]) (fun _ _ e => e) hp2
      have hp3 := s7 _ _ (s6 _ _ hp1)
      refine ⟨p, p2, _, _, rfl, rfl, hp3, upd_same, (by show 6 ≤ sizeLine; rw [sizeLine_eq]; decide), fun p4 hp4 => ?_⟩
      have s8 := same_new (o := .lst ([.ref a0, .ref a1, .ref a2, .ref a3, .ref a4] ++ [.ref a5])) (fun _ _ e => e) hp4
      have t7 := same_tr s7 s8
      have t6 := same_tr s6 t7
      have t5 := same_tr s5 t6
      have t4 := same_tr s4 t5
      have t3 := same_tr s3 t4
      have t2 := same_tr s2 t3
      have t1 := same_tr s1 t2
      have g : ∀ j, j < 6 → ∃ e, ([V.ref a0, .ref a1, .ref a2, .ref a3, .ref a4] ++ [.ref a5] : List V)[j]? = some (.ref e) ∧ ErrAt _ c j e v := fun j hj => match j, hj with
        | 0, _ => ⟨a0, rfl, .inl ⟨by decide, d0, EAt.same t1 (eUp_at z0)⟩⟩
        | 1, _ => ⟨a1, rfl, .inl ⟨by decide, d1, EAt.same t2 (eUp_at z1)⟩⟩
        | 2, _ => ⟨a2, rfl, .inl ⟨by decide, d2, EAt.same t3 (eUp_at z2)⟩⟩
        | 3, _ => ⟨a3, rfl, .inl ⟨by decide, d3, EAt.same t4 (eUp_at z3)⟩⟩
        | 4, _ => ⟨a4, rfl, .inl ⟨by decide, d4, EAt.same t5 (eUp_at z4)⟩⟩
        | 5, _ => ⟨a5, rfl, .inl ⟨by decide, d5, EAt.same t7 (eUp_at z5)⟩⟩
      obtain ⟨e, he, hE⟩ := g i h6'
      exact ⟨_, rfl, p4, _, _, _, rfl, rfl, SqL.of upd_same, atI_nat he, k e _ (same_tr s0 t1) hE⟩
    · have h6' : 6 ≤ i := by
        have z : ¬ (i : Int) < 6 := fun z => h6 (decide_eq_true z)
        omega
      intro a6 x6 a7 x7 a8 x8
      refine ⟨(by show 3 ≤ sizeLine; rw [sizeLine_eq]; decide), fun p hp => ?_⟩
      have s6 : Same _ _ := same_new (o := exo a6 (c 6) none) (fun _ _ e => e) x6
      have s7 : Same _ _ := same_new (o := exo a7 (c 7) none) (fun _ _ e => e) x7
      have s8 : Same _ _ := same_new (o := exo a8 (c 8) none) (fun _ _ e => e) x8
      have s9 : Same _ _ := same_new (o := .lst [.ref a6, .ref a7, .ref a8]) (fun _ _ e => e) hp
      have t7 := same_tr s8 s9
      have t6 := same_tr s7 t7
      have g : ∀ j, j < 3 → ∃ e, ([V.ref a6, .ref a7, .ref a8] : List V)[j]? = some (.ref e) ∧ ErrAt _ c (j + 6) e v := fun j hj => match j, hj with
        | 0, _ => ⟨a6, rfl, .inr ⟨by decide, EAt.same (o := none) t6 upd_same⟩⟩
        | 1, _ => ⟨a7, rfl, .inr ⟨by decide, EAt.same (o := none) t7 upd_same⟩⟩
        | 2, _ => ⟨a8, rfl, .inr ⟨by decide, EAt.same (o := none) s9 upd_same⟩⟩
      obtain ⟨e, he, hE⟩ := g (i - 6) (by omega)
      have ei : ((i : Int) - 6) = ((i - 6 : Nat) : Int) := by omega
      have ej : i - 6 + 6 = i := by omega
      rw [ej] at hE
      exact ⟨_, rfl, _, _, rfl, rfl, p, _, _, _, rfl, rfl, SqL.of upd_same, (by rw [ei]; exact atI_nat he), k e _ (same_tr s6 t6) hE⟩
theorem scClasses : FnScope ["_law_e", "_law_found"] ["_law_e"] (defScope sClasses) := ⟨rfl, rfl, rfl, by decide +kernel, rfl, by decide +kernel, by decide +kernel⟩
theorem ok_classes {f : Addr} {fd : FuncData} (F : Fun K "_law_classes" "_law_classes" sClasses f fd) (T : TxtE K mg c ini se) (B : TxtB mg) : FnOk P w K mg base CX0 1 f fd ["_law_e"] (spClasses c) := by
  refine F.ok scClasses (fun vs H Q E h => ?_) (fun cdv A outer s H vs Q E hr h => ?_)
  · obtain ⟨i, e, v, rfl, _⟩ := h
    rfl
  · obtain ⟨i, e, v, rfl, hi, hE, k⟩ := h
    obtain ⟨o, hO⟩ := hE.eat
    have TA := T.all i hi
    refine ⟨_, pss_cons (ps_set (i := 1) scClasses.nd rfl (.inl rfl) (pe_lst
        (pa_cons (pe_callB isOne (by rfl) B.isi (by decide +kernel) (pa_cons (pv 0) (pa_cons (pe_glob (v := .ref (c 0)) rfl T.e0.g rfl) pa_nil)))
        (pa_cons (pe_callB isOne (by rfl) B.isi (by decide +kernel) (pa_cons (pv 0) (pa_cons (pe_glob (v := .ref (c 1)) rfl T.e1.g rfl) pa_nil)))
        (pa_cons (pe_callB isOne (by rfl) B.isi (by decide +kernel) (pa_cons (pv 0) (pa_cons (pe_glob (v := .ref (c 2)) rfl T.e2.g rfl) pa_nil)))
        (pa_cons (pe_callB isOne (by rfl) B.isi (by decide +kernel) (pa_cons (pv 0) (pa_cons (pe_glob (v := .ref (c 3)) rfl T.e3.g rfl) pa_nil))) pa_nil))))))
      (pss_cons (ps_set (i := 1) scClasses.nd rfl (.inl rfl) (pe_op op_cat (pv 1) (pe_lst
        (pa_cons (pe_callB isOne (by rfl) B.isi (by decide +kernel) (pa_cons (pv 0) (pa_cons (pe_glob (v := .ref (c 4)) rfl T.e4.g rfl) pa_nil)))
        (pa_cons (pe_callB isOne (by rfl) B.isi (by decide +kernel) (pa_cons (pv 0) (pa_cons (pe_glob (v := .ref (c 5)) rfl T.e5.g rfl) pa_nil)))
        (pa_cons (pe_callB isOne (by rfl) B.isi (by decide +kernel) (pa_cons (pv 0) (pa_cons (pe_glob (v := .ref (c 6)) rfl T.e6.g rfl) pa_nil))) pa_nil))))))
      (pss_one (ps_ret (pe_op op_cat (pv 1) (pe_lst
        (pa_cons (pe_callB isOne (by rfl) B.isi (by decide +kernel) (pa_cons (pv 0) (pa_cons (pe_glob (v := .ref (c 7)) rfl T.e7.g rfl) pa_nil)))
        (pa_cons (pe_callB isOne (by rfl) B.isi (by decide +kernel) (pa_cons (pv 0) (pa_cons (pe_glob (v := .ref (c 8)) rfl T.e8.g rfl) pa_nil))) pa_nil))))))), ?_⟩
    refine ⟨_, rfl, e, c i, o, _, _, _, rfl, hO, TA, .own _, T.kit i 0 hi (by decide), ?_⟩
    refine ⟨_, rfl, e, c i, o, _, _, _, rfl, hO, TA, .own _, T.kit i 1 hi (by decide), ?_⟩
    refine ⟨_, rfl, e, c i, o, _, _, _, rfl, hO, TA, .own _, T.kit i 2 hi (by decide), ?_⟩
    refine ⟨_, rfl, e, c i, o, _, _, _, rfl, hO, TA, .own _, T.kit i 3 hi (by decide), ?_⟩
    refine ⟨(by show 4 ≤ sizeLine; rw [sizeLine_eq]; decide), fun p hp => ?_⟩
    have s1 := same_new (o := .lst [.bl (decide (i = 0)), .bl (decide (i = 1)), .bl (decide (i = 2)), .bl (decide (i = 3))]) (fun _ _ e => e) hp
    have h1 : upd H p (.lst [.bl (decide (i = 0)), .bl (decide (i = 1)), .bl (decide (i = 2)), .bl (decide (i = 3))]) p = _ := upd_same
    have hO1 := EAt.same s1 hO
    refine ⟨_, rfl, ?_⟩
    refine ⟨_, rfl, e, c i, o, _, _, _, rfl, hO1, TA, .own _, T.kit i 4 hi (by decide), ?_⟩
    refine ⟨_, rfl, e, c i, o, _, _, _, rfl, hO1, TA, .own _, T.kit i 5 hi (by decide), ?_⟩
    refine ⟨_, rfl, e, c i, o, _, _, _, rfl, hO1, TA, .own _, T.kit i 6 hi (by decide), ?_⟩
    refine ⟨(by show 3 ≤ sizeLine; rw [sizeLine_eq]; decide), fun p2 hp2 => ?_⟩
    have s2 := same_new (o := .lst [.bl (decide (i = 4)), .bl (decide (i = 5)), .bl (decide (i = 6))]) (fun _ _ e => e) hp2
    have h2 := s2 _ _ h1
    have h2b : upd (upd H p (.lst [.bl (decide (i = 0)), .bl (decide (i = 1)), .bl (decide (i = 2)), .bl (decide (i = 3))])) p2 (.lst [.bl (decide (i = 4)), .bl (decide (i = 5)), .bl (decide (i = 6))]) p2 = _ := upd_same
    refine ⟨p, p2, _, _, rfl, rfl, h2, h2b, (by show 7 ≤ sizeLine; rw [sizeLine_eq]; decide), fun p3 hp3 => ?_⟩
    have s3 := same_new (o := .lst ([.bl (decide (i = 0)), .bl (decide (i = 1)), .bl (decide (i = 2)), .bl (decide (i = 3))] ++ [.bl (decide (i = 4)), .bl (decide (i = 5)), .bl (decide (i = 6))])) (fun _ _ e => e) hp3
    have h3 : upd (upd (upd H p (.lst [.bl (decide (i = 0)), .bl (decide (i = 1)), .bl (decide (i = 2)), .bl (decide (i = 3))])) p2 (.lst [.bl (decide (i = 4)), .bl (decide (i = 5)), .bl (decide (i = 6))])) p3 (.lst ([.bl (decide (i = 0)), .bl (decide (i = 1)), .bl (decide (i = 2)), .bl (decide (i = 3))] ++ [.bl (decide (i = 4)), .bl (decide (i = 5)), .bl (decide (i = 6))])) p3 = _ := upd_same
    have hO3 := EAt.same s3 (EAt.same s2 hO1)
    refine ⟨_, rfl, ?_⟩
    refine ⟨_, rfl, e, c i, o, _, _, _, rfl, hO3, TA, .own _, T.kit i 7 hi (by decide), ?_⟩
    refine ⟨_, rfl, e, c i, o, _, _, _, rfl, hO3, TA, .own _, T.kit i 8 hi (by decide), ?_⟩
    refine ⟨(by show 2 ≤ sizeLine; rw [sizeLine_eq]; decide), fun p4 hp4 => ?_⟩
    have s4 := same_new (o := .lst [.bl (decide (i = 7)), .bl (decide (i = 8))]) (fun _ _ e => e) hp4
    refine ⟨p3, p4, _, _, rfl, rfl, s4 _ _ h3, upd_same, (by show 9 ≤ sizeLine; rw [sizeLine_eq]; decide), fun p5 hp5 => ?_⟩
    exact k p5 _ (same_tr s1 (same_tr s2 (same_tr s3 (same_tr s4 (same_new (fun _ _ e => e) hp5))))) upd_same
theorem scHeld : FnScope ["_law_spot", "_law_e"] ["_law_spot", "_law_e"] (defScope sHeld) := ⟨rfl, rfl, rfl, by decide +kernel, rfl, by decide +kernel, by decide +kernel⟩
theorem ok_held {f : Addr} {fd : FuncData} (F : Fun K "_law_held" "_law_held" sHeld f fd) (T : TxtE K mg c ini se) : FnOk P w K mg base CX0 1 f fd ["_law_spot", "_law_e"] (spHeld c) := by
  refine F.ok scHeld (fun vs H Q E h => ?_) (fun cdv A outer s H vs Q E hr h => ?_)
  · obtain ⟨i, e, v, rfl, _⟩ := h
    rfl
  · obtain ⟨i, e, v, rfl, hi, hE, k⟩ := h
    have TA := T.all i hi
    refine ⟨_, pss_cons (ps_if (pt_cmpR op_in_seq (pv 0) (pe_tup (pa_cons pe_int (pa_cons pe_int (pa_cons pe_int pa_nil)))) (by with_unfolding_all rfl)) (pss_one (ps_ret (pe_lst (pa_cons (pe_efld (pv 1)) pa_nil)))) pss_nil)
      (pss_cons (ps_if (pt_cmpR op_eq (pv 0) pe_int (nomark _)) (pss_one (ps_ret (pe_lst (pa_cons (pe_efld (pv 1)) pa_nil)))) pss_nil)
      (pss_cons (ps_if (pt_cmpR op_eq (pv 0) pe_int (nomark _)) (pss_one (ps_ret (pe_lst (pa_cons (pe_efld (pv 1)) pa_nil)))) pss_nil)
      (pss_one (ps_ret (pe_ifExp (pt_cmpR op_eq (pv 0) pe_int (nomark _)) (pe_lst (pa_cons (pe_efld (pv 1)) pa_nil)) (pe_lst pa_nil)))))), ?_⟩
    refine ⟨_, rfl, (by show 3 ≤ sizeLine; rw [sizeLine_eq]; decide), fun p hp => ?_⟩
    have s1 := same_new (o := .tup [.int 0, .int 2, .int 5]) (fun _ _ e => e) hp
    have hT : upd H p (.tup [.int 0, .int 2, .int 5]) p = _ := upd_same
    have hE1 := hE.same s1
    have one : ∀ {n : Str} {x : V}, ([(n, x)] : List (Str × V)).lookup n = some x := fun {n x} => by simp [List.lookup]
    refine ⟨p, _, rfl, .inr (SqT.of hT), rfl, rfl, _, rfl, ?_⟩
    obtain rfl | rfl | rfl | rfl | rfl | rfl | rfl | rfl | rfl : i = 0 ∨ i = 1 ∨ i = 2 ∨ i = 3 ∨ i = 4 ∨ i = 5 ∨ i = 6 ∨ i = 7 ∨ i = 8 := by omega
    ·
      obtain ⟨dx, hd⟩ : ∃ dx, EAt _ e (c 0) (some (dx, [(fld 0, v)])) := by
        rcases hE1 with ⟨_, dx, q⟩ | ⟨q, _⟩
        · exact ⟨dx, q⟩
        · omega
      exact ite2 (fun _ => ⟨_, rfl, e, c 0, dx, _, v, rfl, hd, TA, T.e0.no, one, (by show 1 ≤ sizeLine; rw [sizeLine_eq]; decide), fun p2 hp2 => k p2 _ (same_tr s1 (same_new (fun _ _ e => e) hp2)) upd_same⟩) (fun z => absurd (by decide) z)
    ·
      obtain ⟨dx, hd⟩ : ∃ dx, EAt _ e (c 1) (some (dx, [(fld 1, v)])) := by
        rcases hE1 with ⟨_, dx, q⟩ | ⟨q, _⟩
        · exact ⟨dx, q⟩
        · omega
      refine ite2 (fun z => absurd z (by decide)) (fun _ => ?_)
      exact ⟨_, rfl, rfl, _, rfl, ite2 (fun _ => ⟨_, rfl, e, c 1, dx, _, v, rfl, hd, TA, T.e1.no, one, (by show 1 ≤ sizeLine; rw [sizeLine_eq]; decide), fun p2 hp2 => k p2 _ (same_tr s1 (same_new (fun _ _ e => e) hp2)) upd_same⟩) (fun z => absurd (by decide) z)⟩
    ·
      obtain ⟨dx, hd⟩ : ∃ dx, EAt _ e (c 2) (some (dx, [(fld 2, v)])) := by
        rcases hE1 with ⟨_, dx, q⟩ | ⟨q, _⟩
        · exact ⟨dx, q⟩
        · omega
      exact ite2 (fun _ => ⟨_, rfl, e, c 2, dx, _, v, rfl, hd, TA, T.e2.no, one, (by show 1 ≤ sizeLine; rw [sizeLine_eq]; decide), fun p2 hp2 => k p2 _ (same_tr s1 (same_new (fun _ _ e => e) hp2)) upd_same⟩) (fun z => absurd (by decide) z)
    ·
      obtain ⟨dx, hd⟩ : ∃ dx, EAt _ e (c 3) (some (dx, [(fld 3, v)])) := by
        rcases hE1 with ⟨_, dx, q⟩ | ⟨q, _⟩
        · exact ⟨dx, q⟩
        · omega
      refine ite2 (fun z => absurd z (by decide)) (fun _ => ?_)
      refine ⟨_, rfl, rfl, _, rfl, ite2 (fun z => absurd z (by decide)) (fun _ => ?_)⟩
      exact ⟨_, rfl, rfl, _, rfl, ite2 (fun _ => ⟨_, rfl, e, c 3, dx, _, v, rfl, hd, TA, T.e3.no, one, (by show 1 ≤ sizeLine; rw [sizeLine_eq]; decide), fun p2 hp2 => k p2 _ (same_tr s1 (same_new (fun _ _ e => e) hp2)) upd_same⟩) (fun z => absurd (by decide) z)⟩
    ·
      obtain ⟨dx, hd⟩ : ∃ dx, EAt _ e (c 4) (some (dx, [(fld 4, v)])) := by
        rcases hE1 with ⟨_, dx, q⟩ | ⟨q, _⟩
        · exact ⟨dx, q⟩
        · omega
      refine ite2 (fun z => absurd z (by decide)) (fun _ => ?_)
      refine ⟨_, rfl, rfl, _, rfl, ite2 (fun z => absurd z (by decide)) (fun _ => ?_)⟩
      refine ⟨_, rfl, rfl, _, rfl, ite2 (fun z => absurd z (by decide)) (fun _ => ?_)⟩
      exact ⟨_, rfl, rfl, _, rfl, ite2 (fun _ => ⟨_, rfl, e, c 4, dx, _, v, rfl, hd, TA, T.e4.no, one, (by show 1 ≤ sizeLine; rw [sizeLine_eq]; decide), fun p2 hp2 => k p2 _ (same_tr s1 (same_new (fun _ _ e => e) hp2)) upd_same⟩) (fun z => absurd (by decide) z)⟩
    ·
      obtain ⟨dx, hd⟩ : ∃ dx, EAt _ e (c 5) (some (dx, [(fld 5, v)])) := by
        rcases hE1 with ⟨_, dx, q⟩ | ⟨q, _⟩
        · exact ⟨dx, q⟩
        · omega
      exact ite2 (fun _ => ⟨_, rfl, e, c 5, dx, _, v, rfl, hd, TA, T.e5.no, one, (by show 1 ≤ sizeLine; rw [sizeLine_eq]; decide), fun p2 hp2 => k p2 _ (same_tr s1 (same_new (fun _ _ e => e) hp2)) upd_same⟩) (fun z => absurd (by decide) z)
    ·
      refine ite2 (fun z => absurd z (by decide)) (fun _ => ?_)
      refine ⟨_, rfl, rfl, _, rfl, ite2 (fun z => absurd z (by decide)) (fun _ => ?_)⟩
      refine ⟨_, rfl, rfl, _, rfl, ite2 (fun z => absurd z (by decide)) (fun _ => ?_)⟩
      exact ⟨_, rfl, rfl, _, rfl, ite2 (fun z => absurd z (by decide)) (fun _ => ⟨(by show 0 ≤ sizeLine; exact Nat.zero_le _), fun p2 hp2 => k p2 _ (same_tr s1 (same_new (fun _ _ e => e) hp2)) upd_same⟩)⟩
    ·
      refine ite2 (fun z => absurd z (by decide)) (fun _ => ?_)
      refine ⟨_, rfl, rfl, _, rfl, ite2 (fun z => absurd z (by decide)) (fun _ => ?_)⟩
      refine ⟨_, rfl, rfl, _, rfl, ite2 (fun z => absurd z (by decide)) (fun _ => ?_)⟩
      exact ⟨_, rfl, rfl, _, rfl, ite2 (fun z => absurd z (by decide)) (fun _ => ⟨(by show 0 ≤ sizeLine; exact Nat.zero_le _), fun p2 hp2 => k p2 _ (same_tr s1 (same_new (fun _ _ e => e) hp2)) upd_same⟩)⟩
    ·
      refine ite2 (fun z => absurd z (by decide)) (fun _ => ?_)
      refine ⟨_, rfl, rfl, _, rfl, ite2 (fun z => absurd z (by decide)) (fun _ => ?_)⟩
      refine ⟨_, rfl, rfl, _, rfl, ite2 (fun z => absurd z (by decide)) (fun _ => ?_)⟩
      exact ⟨_, rfl, rfl, _, rfl, ite2 (fun z => absurd z (by decide)) (fun _ => ⟨(by show 0 ≤ sizeLine; exact Nat.zero_le _), fun p2 hp2 => k p2 _ (same_tr s1 (same_new (fun _ _ e => e) hp2)) upd_same⟩)⟩
end
end K01

set_option Elab.async false
set_option linter.all false
set_option maxRecDepth 100000
set_option maxHeartbeats 4000000
/-! Errors raised, and by which clause they are caught. -/
namespace K01
open PySem PySem.Spec PyProof.Rows L2 Mine
def spRaised (c : Nat → Addr) : Sp := fun vs H _ E => ∃ (i : Nat) (v : V), vs = [.int (i : Int), v] ∧ i < 9 ∧ ∀ (d : Option Addr), E (.ref (c i)) d H
/-- by which clause -/
def term : Nat → Str
  | 0 => PySem.Str.ofString "book"
  | 2 => PySem.Str.ofString "row"
  | 4 => PySem.Str.ofString "paper"
  | 5 => PySem.Str.ofString "unlike"
  | 7 => PySem.Str.ofString "redo"
  | _ => PySem.Str.ofString "base"
def spCaught : Sp := fun vs H Q _ => ∃ (i : Nat) (v : V), vs = [.int (i : Int), v] ∧ i < 9 ∧ ∀ H', Same H H' → Q (.str (term i)) H'
section
variable {P : Program} {w : World} {K : PySem.W.Frag} {mg : Str → Option Value} {base : Heap} {c ini : Nat → Addr} {se : Addr}
theorem scRaised : FnScope ["_law_spot", "_law_it"] ["_law_spot", "_law_it"] (defScope sRaised) := ⟨rfl, rfl, rfl, by decide +kernel, rfl, by decide +kernel, by decide +kernel⟩
theorem ok_raised {f : Addr} {fd : FuncData} (F : Fun K "_law_raised" "_law_raised" sRaised f fd) (T : TxtE K mg c ini se) : FnOk P w K mg base (L2.CX P w) 1 f fd ["_law_spot", "_law_it"] (spRaised c) := by
  refine F.okX scRaised (fun vs H Q E h => ?_) (fun cdv A outer s H vs Q E hr h => ?_)
  · obtain ⟨i, v, rfl, _⟩ := h
    rfl
  · obtain ⟨i, v, rfl, hi, k⟩ := h
    have room : (A.deeper (envOfC "_law_raised" (defScope sRaised) s.heap.objs.size f cdv)).depth + 1 < recursionLimit := by have := hr.dp; omega
    refine ⟨_, pss_cons (ps_if (pt_cmpR op_eq (pv 0) pe_int (nomark _)) (pss_one (ps_raise rfl (takes_of rfl rfl rfl rfl) (pm_err T.e0 room (pa_cons (pv 1) pa_nil) rfl))) pss_nil)
      (pss_cons (ps_if (pt_cmpR op_eq (pv 0) pe_int (nomark _)) (pss_one (ps_raise rfl (takes_of rfl rfl rfl rfl) (pm_err T.e1 room (pa_cons (pv 1) pa_nil) rfl))) pss_nil)
      (pss_cons (ps_if (pt_cmpR op_eq (pv 0) pe_int (nomark _)) (pss_one (ps_raise rfl (takes_of rfl rfl rfl rfl) (pm_err T.e2 room (pa_cons (pv 1) pa_nil) rfl))) pss_nil)
      (pss_cons (ps_if (pt_cmpR op_eq (pv 0) pe_int (nomark _)) (pss_one (ps_raise rfl (takes_of rfl rfl rfl rfl) (pm_err T.e3 room (pa_cons (pv 1) pa_nil) rfl))) pss_nil)
      (pss_cons (ps_if (pt_cmpR op_eq (pv 0) pe_int (nomark _)) (pss_one (ps_raise rfl (takes_of rfl rfl rfl rfl) (pm_err T.e4 room (pa_cons (pv 1) pa_nil) rfl))) pss_nil)
      (pss_cons (ps_if (pt_cmpR op_eq (pv 0) pe_int (nomark _)) (pss_one (ps_raise rfl (takes_of rfl rfl rfl rfl) (pm_err T.e5 room (pa_cons (pv 1) pa_nil) rfl))) pss_nil)
      (pss_cons (ps_if (pt_cmpR op_eq (pv 0) pe_int (nomark _)) (pss_one (ps_raise rfl (takes_of rfl rfl rfl rfl) (pm_err0 T.e6 rfl))) pss_nil)
      (pss_cons (ps_if (pt_cmpR op_eq (pv 0) pe_int (nomark _)) (pss_one (ps_raise rfl (takes_of rfl rfl rfl rfl) (pm_err0 T.e7 rfl))) pss_nil)
      (pss_one (ps_raise rfl (takes_of rfl rfl rfl rfl) (pm_err0 T.e8 rfl)))))))))), ?_⟩
    obtain rfl | rfl | rfl | rfl | rfl | rfl | rfl | rfl | rfl : i = 0 ∨ i = 1 ∨ i = 2 ∨ i = 3 ∨ i = 4 ∨ i = 5 ∨ i = 6 ∨ i = 7 ∨ i = 8 := by omega
    all_goals
      repeat (first
        | exact ⟨_, rfl, rfl, _, rfl, ite2 (fun _ => ⟨_, rfl, _, rfl, fun d => k (some d)⟩) (fun z => absurd (by decide) z)⟩
        | exact ⟨_, rfl, rfl, _, rfl, ite2 (fun _ => k none) (fun z => absurd (by decide) z)⟩
        | exact k none
        | refine ⟨_, rfl, rfl, _, rfl, ite2 (fun z => absurd z (by decide)) (fun _ => ?_)⟩)
structure TxtC (K : PySem.W.Frag) (mg : Str → Option Value) (fR : Addr) : Prop where
  g : mg "_law_raised" = some (.ref fR)
  k : PySem.W.keepIn K (.ref fR) = true
theorem scCaught : FnScope ["_law_spot", "_law_it", "_law_found"] ["_law_spot", "_law_it"] (defScope sCaught) := ⟨rfl, rfl, rfl, by decide +kernel, rfl, by decide +kernel, by decide +kernel⟩
theorem ok_caught {f fR : Addr} {fd fdR : FuncData} (F : Fun K "_law_caught" "_law_caught" sCaught f fd) (FR : Fun K "_law_raised" "_law_raised" sRaised fR fdR) (bR : Binds K fdR ["_law_spot", "_law_it"] []) (T : TxtE K mg c ini se) (TC : TxtC K mg fR) :
    FnOk P w K mg base CX0 2 f fd ["_law_spot", "_law_it"] spCaught := by
  have GR : FnOk P w K mg base (L2.CX P w) 1 fR fdR ["_law_spot", "_law_it"] (spRaised c) := ok_raised FR T
  refine F.ok scCaught (fun vs H Q E h => ?_) (fun cdv A outer s H vs Q E hr h => ?_)
  · obtain ⟨i, v, rfl, _⟩ := h
    rfl
  · obtain ⟨i, v, rfl, hi, k⟩ := h
    refine ⟨_, pss_cons (ps_set (i := 2) scCaught.nd rfl (.inl rfl) pe_str)
      (pss_cons (ps_try_many (tb := fun W => tDrop (tCallS (spRaised c) (WE W) (tCons (tVar 0) (tCons (tVar 1) tNil)))) (Wout := fun _ _ _ _ => False) rfl rfl takes0
        (fun W pn xe tk _ => pss_one (ps_expr (by exact (pe_callS GR hr rfl TC.g TC.k bR (fun σ => passAt tk σ) (by exact (pa_cons (pv 0) (pa_cons (pv 1) pa_nil)))))))
        (.cons ⟨rfl, by decide, .inl T.e2.g⟩ (fun a oe cls d pn _ _ => pss_one (ps_set (i := 2) scCaught.nd rfl (.inl rfl) pe_str))
        (.cons ⟨rfl, by decide, .inl T.e4.g⟩ (fun a oe cls d pn _ _ => pss_one (ps_set (i := 2) scCaught.nd rfl (.inl rfl) pe_str))
        (.cons ⟨rfl, by decide, .inl T.e7.g⟩ (fun a oe cls d pn _ _ => pss_one (ps_set (i := 2) scCaught.nd rfl (.inl rfl) pe_str))
        (.cons ⟨rfl, by decide, .inl T.e0.g⟩ (fun a oe cls d pn _ _ => pss_one (ps_set (i := 2) scCaught.nd rfl (.inl rfl) pe_str))
        (.cons ⟨rfl, by decide, .inl T.e5.g⟩ (fun a oe cls d pn _ _ => pss_one (ps_set (i := 2) scCaught.nd rfl (.inl rfl) pe_str))
        (.cons ⟨rfl, by decide, .inl T.gS⟩ (fun a oe cls d pn _ _ => pss_one (ps_set (i := 2) scCaught.nd rfl (.inl rfl) pe_str)) .nil)))))))
      (pss_one (ps_ret (pv 2)))), ?_⟩
    refine ⟨_, rfl, _, rfl, i, v, rfl, hi, fun d => ?_⟩
    refine ⟨_, T.exm i 2 hi (by decide), fun z a _ => ?_, fun z => ⟨_, T.exm i 4 hi (by decide), fun z4 a _ => ?_, fun z4 => ⟨_, T.exm i 7 hi (by decide), fun z7 a _ => ?_, fun z7 => ⟨_, T.exm i 0 hi (by decide), fun z0 a _ => ?_, fun z0 => ⟨_, T.exm i 5 hi (by decide), fun z5 a _ => ?_,
      fun z5 => ⟨_, T.exmS i hi, fun zs a _ => ?_, fun zs => Bool.noConfusion zs⟩⟩⟩⟩⟩⟩
    · obtain rfl := of_decide_eq_true z
      exact ⟨_, rfl, k _ same_rfl⟩
    · obtain rfl := of_decide_eq_true z4
      exact ⟨_, rfl, k _ same_rfl⟩
    · obtain rfl := of_decide_eq_true z7
      exact ⟨_, rfl, k _ same_rfl⟩
    · obtain rfl := of_decide_eq_true z0
      exact ⟨_, rfl, k _ same_rfl⟩
    · obtain rfl := of_decide_eq_true z5
      exact ⟨_, rfl, k _ same_rfl⟩
    · have n2 := of_decide_eq_false z
      have n4 := of_decide_eq_false z4
      have n7 := of_decide_eq_false z7
      have n0 := of_decide_eq_false z0
      have n5 := of_decide_eq_false z5
      refine ⟨_, rfl, ?_⟩
      have q := k H same_rfl
      obtain rfl | rfl | rfl | rfl : i = 1 ∨ i = 3 ∨ i = 6 ∨ i = 8 := by omega
      all_goals exact q
end
end K01

set_option Elab.async false
set_option linter.all false
set_option maxRecDepth 100000
set_option maxHeartbeats 4000000
/-! All that is asked of the error at a place. -/
namespace K01
open PySem PySem.Spec PyProof.Rows L2 Mine
abbrev sRight : Stmt := top 22
def spRight : Sp := fun vs H Q _ => ∃ (i : Nat) (v u : V) (d e : PyData), vs = [.int (i : Int), v, u] ∧ i < 9 ∧ DK H v d ∧ DK H u e ∧ Shows 1000 8 d ∧ Shows 1000 8 e ∧ ∀ H', Same H H' → Q (.bl true) H'
structure TxtR (K : PySem.W.Frag) (mg : Str → Option Value) (fM fN fC fH fG : Addr) : Prop where
  range : mg "range" = none
  repr : mg "repr" = none
  exc : mg "Exception" = none
  ve : mg "ValueError" = none
  le : mg "LookupError" = none
  ae : mg "ArithmeticError" = none
  te : mg "TypeError" = none
  at_ : mg "AttributeError" = none
  re : mg "RuntimeError" = none
  int : mg "int" = none
  gM : mg "_law_made" = some (.ref fM)
  kM : PySem.W.keepIn K (.ref fM) = true
  gN : mg "_law_named" = some (.ref fN)
  kN : PySem.W.keepIn K (.ref fN) = true
  gC : mg "_law_classes" = some (.ref fC)
  kC : PySem.W.keepIn K (.ref fC) = true
  gH : mg "_law_held" = some (.ref fH)
  kH : PySem.W.keepIn K (.ref fH) = true
  gG : mg "_law_caught" = some (.ref fG)
  kG : PySem.W.keepIn K (.ref fG) = true
def items (i : Nat) (v : V) : List V := if i < 6 then [v] else []
def itemsD (i : Nat) (d : PyData) : List PyData := if i < 6 then [d] else []
theorem items_rep {i : Nat} {v : V} : (List.replicate ((if decide ((i : Int) < 6) = true then (1 : Int) else 0)).toNat [v]).flatten = items i v := by
  unfold items
  by_cases h : i < 6
  · rw [if_pos h, if_pos (decide_eq_true (by omega : (i : Int) < 6))]
    rfl
  · rw [if_neg h, if_neg (by rw [decide_eq_false (by omega : ¬ (i : Int) < 6)]; decide)]
    rfl
theorem items_dk {H : Hp} {i : Nat} {v : V} {d : PyData} (h : DK H v d) : DKs H (items i v) (itemsD i d) := by
  unfold items itemsD
  by_cases z : i < 6
  · rw [if_pos z, if_pos z]
    exact .cons h .nil
  · rw [if_neg z, if_neg z]
    exact .nil
theorem items_show {i : Nat} {d : PyData} (s : Shows 1000 8 d) : Shows sizeLine 20 (.list (itemsD i d)) := by
  have big : 3 * 1000 + 9 ≤ sizeLine := by rw [sizeLine_eq]; decide
  unfold itemsD
  by_cases z : i < 6
  · rw [if_pos z]
    exact ((ShowsAll.nil.snoc s).list (by decide)).up big (by decide)
  · rw [if_neg z]
    exact ((ShowsAll.nil (n := 1000) (l := 8)).list (by decide)).up big (by decide)
def marks (i k : Nat) : List V := (List.range k).map fun j => V.bl (decide (i = j))
def marksD (i k : Nat) : List PyData := (List.range k).map fun j => PyData.bool (decide (i = j))
theorem bools_dp {K : PySem.W.Frag} {H : Hp} (g : Nat → Bool) : ∀ l : List Nat, DpAll K H (l.map fun j => V.bl (g j)) (l.map fun j => PyData.bool (g j))
  | [] => .nil
  | _ :: l => .cons (.bl _) (bools_dp g l)
theorem bools_lay (g : Nat → Bool) : ∀ l : List Nat, PyData.canLayAll0 (l.map fun j => PyData.bool (g j)) = true
  | [] => by simp [PyData.canLayAll0]
  | _ :: l => by simp [PyData.canLayAll0, PyData.canLay0, bools_lay g l]
theorem bools_dep (g : Nat → Bool) : ∀ l : List Nat, PyData.depthAll (l.map fun j => PyData.bool (g j)) = 0
  | [] => by simp [PyData.depthAll]
  | _ :: l => by simp [PyData.depthAll, PyData.depth, bools_dep g l]
theorem marks_shaped (i k : Nat) : SeqAt.shaped (.list (marksD i k)) = true := by
  show (PyData.canLay0 (.list (marksD i k)) && decide (PyData.depth (.list (marksD i k)) ≤ 64)) = true
  rw [Bool.and_eq_true]
  refine ⟨by simp only [PyData.canLay0]; exact bools_lay _ _, decide_eq_true ?_⟩
  simp only [PyData.depth, marksD, bools_dep]
  decide
theorem terms_at : ∀ i, i < 9 → ([.str (PySem.Str.ofString "book"), .str (PySem.Str.ofString "base"), .str (PySem.Str.ofString "row"), .str (PySem.Str.ofString "base"), .str (PySem.Str.ofString "paper"), .str (PySem.Str.ofString "unlike"), .str (PySem.Str.ofString "base"), .str (PySem.Str.ofString "redo"), .str (PySem.Str.ofString "base")] : List V)[i]? = some (.str (term i))
  | 0, _ => rfl
  | 1, _ => rfl
  | 2, _ => rfl
  | 3, _ => rfl
  | 4, _ => rfl
  | 5, _ => rfl
  | 6, _ => rfl
  | 7, _ => rfl
  | 8, _ => rfl
section
variable {P : Program} {w : World} {K : PySem.W.Frag} {mg : Str → Option Value} {base : Heap} {c ini : Nat → Addr} {se : Addr}
theorem scRight : FnScope ["_law_spot", "_law_it", "_law_mate", "_law_due", "_law_e", "_law_later", "_law_terms", "_law_at"] ["_law_spot", "_law_it", "_law_mate"] (defScope sRight) := ⟨rfl, rfl, rfl, by decide +kernel, rfl, by decide +kernel, by decide +kernel⟩
theorem ok_right {f fM fN fC fH fG : Addr} {fd fdM fdN fdC fdH fdG : FuncData} (F : Fun K "_law_right" "_law_right" sRight f fd) (T : TxtE K mg c ini se) (B : TxtB mg) (R : TxtR K mg fM fN fC fH fG)
    (GM : FnOk P w K mg base CX0 1 fM fdM ["_law_spot", "_law_it"] (spMade c)) (bM : Binds K fdM ["_law_spot", "_law_it"] [])
    (GN : FnOk P w K mg base CX0 1 fN fdN ["_law_spot", "_law_it"] (spMade c)) (bN : Binds K fdN ["_law_spot", "_law_it"] [])
    (GC : FnOk P w K mg base CX0 1 fC fdC ["_law_e"] (spClasses c)) (bC : Binds K fdC ["_law_e"] [])
    (GH : FnOk P w K mg base CX0 1 fH fdH ["_law_spot", "_law_e"] (spHeld c)) (bH : Binds K fdH ["_law_spot", "_law_e"] [])
    (GG : FnOk P w K mg base CX0 2 fG fdG ["_law_spot", "_law_it"] spCaught) (bG : Binds K fdG ["_law_spot", "_law_it"] []) : FnG P w K mg base 3 f fd ["_law_spot", "_law_it", "_law_mate"] spRight := by
  refine fnG_of F scRight (fun vs H Q E h => ?_) (fun cdv A outer s H vs Q E hr hgd h => ?_)
  · obtain ⟨i, v, u, d, e, rfl, _⟩ := h
    rfl
  · obtain ⟨i, v, u, d, e, rfl, hi, hv, hw, sv, sw, k⟩ := h
    have hu := hu_of hr
    have hr1 : Room 1 _ := hr.mono (by decide)
    have hun : (A.deeper (envOfC "_law_right" (defScope sRight) s.heap.objs.size f cdv)).units + 40 < cLine := by have := hr.un; omega
    refine ⟨_, pss_cons (ps_setLc (i := 3) (own := [("_law_at", 7)]) (g := gName 7) (tt := tYes) rfl scRight.nd rfl rfl (sw_true rfl rfl rfl (by decide +kernel)) (pi_range1 rfl R.range (pa_cons pe_int pa_nil))
        (blkOk_by (own := [("_law_at", 7)]) (N := ["_law_spot", "_law_it", "_law_mate", "_law_due", "_law_e", "_law_later", "_law_terms", "_law_at"]) (sc := defScope sRight) (by decide +kernel)) (fun _ _ _ _ _ => pg_name (i := 7) scRight.nd rfl (Or.inl rfl)) (fun _ _ _ _ _ => pts_nil)
        (fun _ _ _ _ _ => pe_cmpR op_eq (pv 7) (pv 0) (nomark _)))
      (pss_cons (ps_for PassesOwn.never rfl (pi_tup (pe_tup (pa_cons (pe_call GM hr1 rfl R.gM R.kM bM .nil pass0 (pa_cons (pv 0) (pa_cons (pv 1) pa_nil))) (pa_cons (pe_call GN hr1 rfl R.gN R.kN bN .nil pass0 (pa_cons (pv 0) (pa_cons (pv 1) pa_nil))) pa_nil)))) (pg_name (i := 4) scRight.nd rfl (.inl rfl))
        (pss_cons (ps_set (i := 5) scRight.nd rfl (.inl rfl) (pe_call GM hr1 rfl R.gM R.kM bM .nil pass0 (pa_cons (pv 0) (pa_cons (pv 2) pa_nil))))
        (pss_cons (ps_if (PW.pt (pw_or (pt_not (pt_val (pe_callB isOne (by rfl) B.isi (by decide +kernel) (pa_cons (pv 4) (pa_cons (pe_glob (v := .ref se) rfl T.gS rfl) pa_nil)))))
            (pw_or (pt_not (pt_val (pe_callB isOne (by rfl) B.isi (by decide +kernel) (pa_cons (pv 4) (pa_cons (pe_bltn (v := .ty "Exception") rfl R.exc (by decide +kernel) rfl) pa_nil)))))
            (pw_or1 (pt_cmpR (op_neD hr.units) (pe_call GC hr1 rfl R.gC R.kC bC .nil pass0 (pa_cons (pv 4) pa_nil)) (pv 3) (nomark _)))))) (pss_one (ps_ret pe_bl)) pss_nil)
        (pss_cons (ps_if (pt_val (pe_callB isMany (by rfl) B.isi (by decide +kernel) (pa_cons (pv 4) (pa_cons (pe_tup (pa_cons (pe_bltn (v := .ty "ValueError") rfl R.ve (by decide +kernel) rfl) (pa_cons (pe_bltn (v := .ty "LookupError") rfl R.le (by decide +kernel) rfl)
            (pa_cons (pe_bltn (v := .ty "ArithmeticError") rfl R.ae (by decide +kernel) rfl) (pa_cons (pe_bltn (v := .ty "TypeError") rfl R.te (by decide +kernel) rfl) (pa_cons (pe_bltn (v := .ty "AttributeError") rfl R.at_ (by decide +kernel) rfl)
            (pa_cons (pe_bltn (v := .ty "RuntimeError") rfl R.re (by decide +kernel) rfl) pa_nil))))))) pa_nil)))) (pss_one (ps_ret pe_bl)) pss_nil)
        (pss_cons (ps_if (pt_cmpR op_ne (pe_callB (call_reprD hgd hun) (by rfl) R.repr (by decide +kernel) (pa_cons (pe_call GH hr1 rfl R.gH R.kH bH .nil pass0 (pa_cons (pv 0) (pa_cons (pv 4) pa_nil))) pa_nil))
            (pe_callB (call_reprD hgd hun) (by rfl) R.repr (by decide +kernel) (pa_cons (pe_op op_rep (pe_lst (pa_cons (pv 1) pa_nil)) (pe_callTy call_int1 (by rfl) R.int (by decide +kernel) (pa_cons (pe_cmpR op_lt (pv 0) pe_int (nomark _)) pa_nil))) pa_nil)) (nomark _)) (pss_one (ps_ret pe_bl)) pss_nil)
        (pss_one (ps_if (pt_cmpR op_ne (pe_callB (call_reprD hgd hun) (by rfl) R.repr (by decide +kernel) (pa_cons (pe_call GH hr1 rfl R.gH R.kH bH .nil pass0 (pa_cons (pv 0) (pa_cons (pv 5) pa_nil))) pa_nil))
            (pe_callB (call_reprD hgd hun) (by rfl) R.repr (by decide +kernel) (pa_cons (pe_op op_rep (pe_lst (pa_cons (pv 2) pa_nil)) (pe_callTy call_int1 (by rfl) R.int (by decide +kernel) (pa_cons (pe_cmpR op_lt (pv 0) pe_int (nomark _)) pa_nil))) pa_nil)) (nomark _)) (pss_one (ps_ret pe_bl)) pss_nil)))))))
      (pss_cons (ps_set (i := 6) scRight.nd rfl (.inl rfl) (pe_lst (pa_cons pe_str (pa_cons pe_str (pa_cons pe_str (pa_cons pe_str (pa_cons pe_str (pa_cons pe_str (pa_cons pe_str (pa_cons pe_str (pa_cons pe_str pa_nil)))))))))))
      (pss_one (ps_ret (pe_cmpR op_eq (pe_call GG hr rfl R.gG R.kG bG .nil pass0 (pa_cons (pv 0) (pa_cons (pv 1) pa_nil))) (pe_ix ix_list (pv 6) (pv 0) (fun _ _ => rfl)) (nomark _)))))), ?_⟩
    -- due
    refine ⟨_, rfl, by decide, by decide, fun D hD => lc_range (lo := 0) (n := 9) (fun k H' => H' = upd H D (.lst (marks i k))) rfl ?_ ?_⟩
    · rintro j H' hj rfl
      refine ⟨rfl, ?_⟩
      unfold tYes
      dsimp only
      rw [if_pos rfl]
      refine ⟨_, rfl, _, rfl, rfl, marks i j, upd_same, ?_, ?_⟩
      · show ((List.range j).map _).length < sizeLine
        rw [List.length_map, List.length_range, sizeLine_eq]
        omega
      · have e1 : marks i (j + 1) = marks i j ++ [V.bl (decide (i = j))] := by
          unfold marks
          rw [List.range_succ, List.map_append]
          rfl
        have e2 : decide (V.int (0 + (j : Int)) = V.int (i : Int)) = decide (i = j) := by
          by_cases z : i = j
          · subst z
            rw [decide_eq_true rfl, decide_eq_true (by rw [Int.zero_add])]
          · rw [decide_eq_false z, decide_eq_false fun q => z (by injection q with q; omega)]
        rw [upd_upd, e1, e2]
    rintro H0 rfl
    have sD := same_new (o := .lst (marks i 9)) (fun _ _ e => e) hD
    have hDl : upd H D (.lst (marks i 9)) D = some (.lst (marks i 9)) := upd_same
    have hv0 := DK.keeps sD _ _ hv
    have hw0 := DK.keeps sD _ _ hw
    generalize upd H D (.lst (marks i 9)) = H1 at sD hDl hv0 hw0
    -- the two errors
    refine ⟨_, rfl, _, rfl, i, v, rfl, hi, fun e1 H2 S2 E1 => ⟨_, rfl, _, rfl, i, v, rfl, hi, fun e2 H3 S3 E2 => ⟨(by show 2 ≤ sizeLine; rw [sizeLine_eq]; decide), fun p hp => ⟨p, rfl, ⟨_, SqT.of upd_same⟩, ?_⟩⟩⟩⟩
    have sP := same_new (o := .tup [.ref e1, .ref e2]) (fun _ _ e => e) hp
    have hP : upd H3 p (.tup [.ref e1, .ref e2]) p = some (.tup [.ref e1, .ref e2]) := upd_same
    have both : ∀ x ∈ [V.ref e1, .ref e2], ∃ e', x = .ref e' ∧ ErrAt (upd H3 p (.tup [.ref e1, .ref e2])) c i e' v := by
      intro x hx
      simp only [List.mem_cons, List.not_mem_nil, or_false] at hx
      rcases hx with rfl | rfl
      · exact ⟨e1, rfl, (E1.same S3).same sP⟩
      · exact ⟨e2, rfl, E2.same sP⟩
    have s13 : Same H1 (upd H3 p (.tup [.ref e1, .ref e2])) := same_tr S2 (same_tr S3 sP)
    generalize upd H3 p (.tup [.ref e1, .ref e2]) = H4 at sP hP both s13
    have TA := T.all i hi
    refine for_tup (K := K) (a := p) (xs := [.ref e1, .ref e2]) (fun _ σ H' => ∃ o4 o5 : Option V, σ = [some (.int (i : Int)), some v, some u, some (.ref D), o4, o5, none, none] ∧ Same H4 H')
      ⟨none, none, rfl, same_rfl⟩ (fun _ σ H' _ ⟨_, _, _, S⟩ => SqT.of (S _ _ hP)) ?_ ?_
    · rintro n x σ H5 hn ⟨o4, o5, rfl, S5⟩
      obtain ⟨e', rfl, hE⟩ := both x (List.mem_of_getElem? hn)
      refine ⟨_, rfl, _, rfl, i, u, rfl, hi, fun e6 H6 S6 E6 => ?_⟩
      have hE6 := (hE.same S5).same S6
      obtain ⟨o, hO⟩ := hE6.eat
      refine ⟨_, rfl, e', c i, o, _, _, _, rfl, hO, TA, .own se, T.kitS i hi, _, rfl, ite2 (fun z => absurd z (by decide)) fun _ => ?_⟩
      refine ⟨_, rfl, e', c i, o, _, _, _, rfl, hO, TA, .ty _, T.kitE i hi, _, rfl, ite2 (fun z => absurd z (by decide)) fun _ => ?_⟩
      have s46 : Same H4 H6 := same_tr S5 S6
      refine ⟨_, rfl, i, e', v, rfl, hi, hE6, fun p7 H7 S7 h7 => ⟨_, rfl, .list (marksD i 9), .list (marksD i 9), .lst (SqL.of h7) (bools_dp _ _), .lst (SqL.of (S7 _ _ (s46 _ _ (s13 _ _ hDl)))) (bools_dp _ _), marks_shaped i 9, marks_shaped i 9, _, rfl, ?_⟩⟩
      refine ite2 (fun z => absurd z (by rw [SeqAt.eqv_refl _ (SeqAt.canLay_of_shaped (marks_shaped i 9))]; decide)) fun _ => ?_
      -- of no other class
      refine ⟨_, rfl, (by show 6 ≤ sizeLine; rw [sizeLine_eq]; decide), fun p8 hp8 => ?_⟩
      have S8 := same_new (o := .tup [.ty "ValueError", .ty "LookupError", .ty "ArithmeticError", .ty "TypeError", .ty "AttributeError", .ty "RuntimeError"]) (fun _ _ e => e) hp8
      refine ⟨e', c i, p8, o, _, _, _, rfl, EAt.same (same_tr S7 S8) hO, TA, upd_same, .cons (.ty _) (.cons (.ty _) (.cons (.ty _) (.cons (.ty _) (.cons (.ty _) (.cons (.ty _) .nil))))), T.kitN i hi, _, rfl, ite2 (fun z => absurd z (by decide)) fun _ => ?_⟩
      have s68 := same_tr S7 S8
      generalize upd H7 p8 (.tup [.ty "ValueError", .ty "LookupError", .ty "ArithmeticError", .ty "TypeError", .ty "AttributeError", .ty "RuntimeError"]) = H8 at S8 s68
      have s18 : Same H1 H8 := same_tr s13 (same_tr s46 s68)
      -- what it holds
      refine ⟨_, rfl, _, rfl, i, e', v, rfl, hi, hE6.same s68, fun p9 H9 S9 h9 => ?_⟩
      have h9' : H9 p9 = some (.lst (items i v)) := h9
      have s19 := same_tr s18 S9
      refine ⟨p9, itemsD i d, rfl, .lst h9' (items_dk (DK.keeps s19 _ _ hv0)), items_show sv, ?_⟩
      refine ⟨_, rfl, (by show 1 ≤ sizeLine; rw [sizeLine_eq]; decide), fun q hq => ⟨_, rfl, _, _, rfl, rfl, .inr ⟨_, rfl, ?_⟩⟩⟩
      have sq := same_new (o := .lst [v]) (fun _ _ e => e) hq
      refine ⟨q, _, _, rfl, rfl, upd_same, ?_, ?_, ?_, fun r hr' => ?_⟩
      · split <;> decide
      · split <;> decide
      · split
        · show 1 * 1 ≤ sizeLine
          rw [sizeLine_eq]; decide
        · show 1 * 0 ≤ sizeLine
          rw [sizeLine_eq]; decide
      rw [items_rep]
      have sr := same_new (o := .lst (items i v)) (fun _ _ e => e) hr'
      have s1r := same_tr s19 (same_tr sq sr)
      refine ⟨r, itemsD i d, rfl, .lst upd_same (items_dk (DK.keeps s1r _ _ hv0)), items_show sv, rfl, _, rfl, iteNS rfl ?_⟩
      have s6r := same_tr s68 (same_tr S9 (same_tr sq sr))
      generalize upd (upd H9 q (.lst [v])) r (.lst (items i v)) = Ha at sr s1r s6r
      -- and the later one
      refine ⟨_, rfl, _, rfl, i, e6, u, rfl, hi, E6.same s6r, fun pb Hb Sb hb => ?_⟩
      have hb' : Hb pb = some (.lst (items i u)) := hb
      have s1b := same_tr s1r Sb
      refine ⟨pb, itemsD i e, rfl, .lst hb' (items_dk (DK.keeps s1b _ _ hw0)), items_show sw, ?_⟩
      refine ⟨_, rfl, (by show 1 ≤ sizeLine; rw [sizeLine_eq]; decide), fun qc hqc => ⟨_, rfl, _, _, rfl, rfl, .inr ⟨_, rfl, ?_⟩⟩⟩
      have sqc := same_new (o := .lst [u]) (fun _ _ e => e) hqc
      refine ⟨qc, _, _, rfl, rfl, upd_same, ?_, ?_, ?_, fun rd hrd => ?_⟩
      · split <;> decide
      · split <;> decide
      · split
        · show 1 * 1 ≤ sizeLine
          rw [sizeLine_eq]; decide
        · show 1 * 0 ≤ sizeLine
          rw [sizeLine_eq]; decide
      rw [items_rep]
      have srd := same_new (o := .lst (items i u)) (fun _ _ e => e) hrd
      have s1d := same_tr s1b (same_tr sqc srd)
      refine ⟨rd, itemsD i e, rfl, .lst upd_same (items_dk (DK.keeps s1d _ _ hw0)), items_show sw, rfl, _, rfl, iteNS rfl ?_⟩
      exact ⟨_, _, rfl, same_tr s46 (same_tr s6r (same_tr Sb (same_tr sqc srd)))⟩
    · rintro σ H5 ⟨o4, o5, rfl, S5⟩
      refine ⟨(by show 9 ≤ sizeLine; rw [sizeLine_eq]; decide), fun pt hpt => ?_⟩
      have st := same_new (o := .lst [.str (PySem.Str.ofString "book"), .str (PySem.Str.ofString "base"), .str (PySem.Str.ofString "row"), .str (PySem.Str.ofString "base"), .str (PySem.Str.ofString "paper"), .str (PySem.Str.ofString "unlike"), .str (PySem.Str.ofString "base"), .str (PySem.Str.ofString "redo"), .str (PySem.Str.ofString "base")]) (fun _ _ e => e) hpt
      refine ⟨_, rfl, _, rfl, i, v, rfl, hi, fun H6 S6 => ⟨_, rfl, _, rfl, pt, _, _, _, rfl, rfl, SqL.of (S6 _ _ upd_same), atI_nat (terms_at i hi), rfl, ?_⟩⟩
      have e0 : decide (V.str (term i) = V.str (term i)) = true := decide_eq_true rfl
      show Q (.bl (decide (V.str (term i) = V.str (term i)))) H6
      rw [e0]
      exact k H6 (same_tr sD (same_tr s13 (same_tr S5 (same_tr st S6))))
end
end K01

set_option Elab.async false
set_option linter.all false
set_option maxRecDepth 100000
set_option maxHeartbeats 4000000
/-! The law. -/
namespace K01
open PySem PySem.Spec PyProof.Rows L2 Mine
abbrev sLaw : Stmt := top 23
def spLaw (K : PySem.W.Frag) : Sp := fun vs H Q _ => ∃ (a : Addr) (ns : List Int), vs = [.ref a] ∧ SqL K H a (ns.map V.int) ∧ ns.length ≤ 63 ∧ ∀ H', Q (.bl true) H'
structure TxtL (K : PySem.W.Frag) (mg : Str → Option Value) (fK fR : Addr) : Prop where
  gK : mg "_law_deck" = some (.ref fK)
  kK : PySem.W.keepIn K (.ref fK) = true
  gR : mg "_law_right" = some (.ref fR)
  kR : PySem.W.keepIn K (.ref fR) = true
  repr : mg "repr" = none
theorem two_show {d e : PyData} (s1 : Shows (big 2) 5 d) (s2 : Shows (big 2) 5 e) : Shows sizeLine 20 (.list [d, e]) := by
  have b : 3 * big 2 + 9 ≤ sizeLine := by rw [sizeLine_eq]; decide
  exact (((ShowsAll.nil.snoc s1).snoc s2).list (by decide)).up b (by decide)
section
variable {P : Program} {w : World} {K : PySem.W.Frag} {mg : Str → Option Value} {base : Heap} {c ini : Nat → Addr} {se : Addr}
theorem scLaw : FnScope ["_law_script", "_law_deck_here", "_law_turn", "_law_spot", "_law_it", "_law_mate", "_law_was"] ["_law_script"] (defScope sLaw) := ⟨rfl, rfl, rfl, by decide +kernel, rfl, by decide +kernel, by decide +kernel⟩
theorem ok_law {f fK fD fA fR : Addr} {fd fdK fdD fdA fdR : FuncData} (F : Fun K "law" "law" sLaw f fd) (T : TxtA K mg fD fA) (L : TxtL K mg fK fR)
    (GK : FnOk P w K mg base CX0 1 fK fdK ["_law_script"] (spDeck K)) (bK : Binds K fdK ["_law_script"] [])
    (GD : FnOk P w K mg base CX0 1 fD fdD ["_law_deck_here", "_law_below"] spDraw) (bD : Binds K fdD ["_law_deck_here", "_law_below"] [])
    (GA : FnOk P w K mg base CX0 4 fA fdA ["_law_deck_here", "_law_deep"] (spAny 2)) (bA : Binds K fdA ["_law_deck_here", "_law_deep"] [])
    (GR : FnG P w K mg base 3 fR fdR ["_law_spot", "_law_it", "_law_mate"] spRight) (bR : Binds K fdR ["_law_spot", "_law_it", "_law_mate"] []) : FnG P w K mg base 5 f fd ["_law_script"] (spLaw K) := by
  refine fnG_of F scLaw (fun vs H Q E h => ?_) (fun cdv A outer s H vs Q E hr hgd h => ?_)
  · obtain ⟨a, ns, rfl, _⟩ := h
    rfl
  · obtain ⟨a, ns, rfl, hS, hlen, k⟩ := h
    have hu := hu_of hr
    have hr1 : Room 1 _ := hr.mono (by decide)
    have hr3 : Room 3 _ := hr.mono (by decide)
    have hun : (A.deeper (envOfC "law" (defScope sLaw) s.heap.objs.size f cdv)).units + 40 < cLine := by have := hr.un; omega
    refine ⟨_, pss_cons (ps_set (i := 1) scLaw.nd rfl (.inl rfl) (pe_call GK hr1 rfl L.gK L.kK bK .nil pass0 (pa_cons (pv 0) pa_nil)))
      (pss_cons (ps_for PassesOwn.never rfl (pi_range1 rfl T.range (pa_cons (pe_op op_add pe_int (pe_call GD hr1 rfl T.gD T.kD bD .nil pass0 (pa_cons (pv 1) (pa_cons pe_int pa_nil)))) pa_nil)) (pg_name (i := 2) scLaw.nd rfl (.inl rfl))
        (pss_one (ps_for PassesOwn.never rfl (pi_range1 rfl T.range (pa_cons pe_int pa_nil)) (pg_name (i := 3) scLaw.nd rfl (.inl rfl))
          (pss_cons (ps_par (i := 4) (j := 5) rfl scLaw.nd rfl rfl (by decide) rfl rfl (pa_cons (pe_call GA hr rfl T.gA T.kA bA .nil pass0 (pa_cons (pv 1) (pa_cons pe_int pa_nil))) (pa_cons (pe_call GA hr rfl T.gA T.kA bA .nil pass0 (pa_cons (pv 1) (pa_cons pe_int pa_nil))) pa_nil)) (by rfl))
          (pss_cons (ps_set (i := 6) scLaw.nd rfl (.inl rfl) (pe_callB (call_reprD hgd hun) (by rfl) L.repr (by decide +kernel) (pa_cons (pe_lst (pa_cons (pv 4) (pa_cons (pv 5) pa_nil))) pa_nil)))
          (pss_one (ps_if (PW.pt (pw_or (pt_not (pt_val (pe_callG GR hr3 hgd rfl L.gR L.kR bR (pa_cons (pv 3) (pa_cons (pv 4) (pa_cons (pv 5) pa_nil))))))
            (pw_or1 (pt_cmpR op_ne (pe_callB (call_reprD hgd hun) (by rfl) L.repr (by decide +kernel) (pa_cons (pe_lst (pa_cons (pv 4) (pa_cons (pv 5) pa_nil))) pa_nil)) (pv 6) (nomark _))))) (pss_one (ps_ret pe_bl)) pss_nil)))))))
      (pss_one (ps_ret pe_bl))), ?_⟩
    refine ⟨_, rfl, a, ns, rfl, hS, hlen, fun dk dl H1 S1 _ _ D1 => ?_⟩
    refine ⟨_, rfl, dk, dl, 3, 0, rfl, D1, by decide, by decide, by decide, by decide, fun q H2 q0 q1 D2 _ => ⟨_, _, rfl, rfl, _, rfl, by omega, by omega, ?_⟩⟩
    have hk : ((1 + q).toNat : Int) ≤ 3 := by omega
    refine for_range (lo := 0) (n := (1 + q).toNat) (fun n σ H' => ∃ (t : Int) (o2 o3 o4 o5 o6 : Option V), σ = [some (.ref a), some (.ref dk), o2, o3, o4, o5, o6] ∧ DeckAt H' dk dl t ∧ 0 ≤ t ∧ t ≤ 1 + (n : Int) * 400)
      ⟨_, none, none, none, none, none, rfl, D2, by omega, by omega⟩ ?_ ?_
    · rintro n σ H3 hn ⟨t, o2, o3, o4, o5, o6, rfl, D3, ta, tb⟩
      have hn3 : (n : Int) ≤ 2 := by omega
      refine ⟨_, rfl, by decide, by decide, ?_⟩
      refine for_range (lo := 0) (n := 9) (fun j σ H' => ∃ (t : Int) (o3 o4 o5 o6 : Option V), σ = [some (.ref a), some (.ref dk), some (.int (0 + (n : Int))), o3, o4, o5, o6] ∧ DeckAt H' dk dl t ∧ 0 ≤ t ∧ t ≤ 1 + (n : Int) * 400 + (j : Int) * 34)
        ⟨t, o3, o4, o5, o6, rfl, D3, ta, by omega⟩ ?_ ?_
      · rintro j σ H4 hj ⟨t, o3, o4, o5, o6, rfl, D4, ta, tb⟩
        have c2 : cost 2 = 17 := by decide
        refine ⟨_, rfl, dk, dl, t, rfl, D4, ta, by omega, fun v d t1 H5 D5 tc td K5 hv sv => ?_⟩
        refine ⟨_, rfl, dk, dl, t1, rfl, D5, by omega, by omega, fun u e t2 H6 D6 te tf K6 hw sw => ?_⟩
        have hv5 : DK H5 v d := DK.keeps (fun b o z => (Nw.of z).2) _ _ hv
        have hv6 : DK H6 v d := DK.keeps (fun b o z => by
          obtain ⟨z1, z2⟩ := Nw.of z
          obtain ⟨y1, y2⟩ := D4.off z1
          exact K6 b o y1 y2 z2) _ _ hv
        have hw6 : DK H6 u e := DK.keeps (fun b o z => (Nw.of z).2) _ _ hw
        refine ⟨_, _, rfl, ?_⟩
        refine ⟨_, rfl, _, rfl, (by show 2 ≤ sizeLine; rw [sizeLine_eq]; decide), fun p hp => ?_⟩
        have sp := same_new (o := .lst [v, u]) (fun _ _ z => z) hp
        have D7 := D6.new (o := .lst [v, u]) hp
        refine ⟨p, [d, e], rfl, .lst upd_same (.cons (DK.keeps sp _ _ hv6) (.cons (DK.keeps sp _ _ hw6) .nil)), two_show sv sw, ?_⟩
        have b2 : big 2 = 700 := by decide
        refine ⟨_, rfl, _, rfl, _, rfl, j, v, u, d, e, ?_, hj, DK.keeps sp _ _ hv6, DK.keeps sp _ _ hw6, sv.up (by omega) (by decide), sw.up (by omega) (by decide), fun H8 S8 => ?_⟩
        · show [V.int (0 + (j : Int)), v, u] = [V.int (j : Int), v, u]
          rw [Int.zero_add]
        have s68 := same_tr sp S8
        refine ⟨_, rfl, ite2 (fun z => absurd z (by decide)) fun _ => ?_⟩
        refine ⟨_, rfl, _, rfl, (by show 2 ≤ sizeLine; rw [sizeLine_eq]; decide), fun r hr' => ?_⟩
        have sr := same_new (o := .lst [v, u]) (fun _ _ z => z) hr'
        have s6r := same_tr s68 sr
        refine ⟨r, [d, e], rfl, .lst upd_same (.cons (DK.keeps s6r _ _ hv6) (.cons (DK.keeps s6r _ _ hw6) .nil)), two_show sv sw, _, rfl, rfl, _, rfl, iteNS rfl ?_⟩
        have D9 : DeckAt (upd H8 r (.lst [v, u])) dk dl t2 := by
          obtain ⟨⟨m, x1, x2, x3⟩, ⟨cc, x4, x5⟩⟩ := D6
          exact ⟨⟨m, s6r _ _ x1, x2, x3⟩, ⟨cc, s6r _ _ x4, x5⟩⟩
        exact ⟨t2, _, _, _, _, rfl, D9, by omega, by rw [Int.natCast_succ]; omega⟩
      · rintro σ H4 ⟨t, o3, o4, o5, o6, rfl, D4, ta, tb⟩
        exact ⟨t, _, o3, o4, o5, o6, rfl, D4, ta, by rw [Int.natCast_succ]; omega⟩
    · rintro σ H3 ⟨t, o2, o3, o4, o5, o6, rfl, D3, ta, tb⟩
      exact k H3
end
end K01

set_option Elab.async false
set_option linter.all false
set_option maxRecDepth 100000
set_option maxHeartbeats 4000000
/-! What the top has written, and the end. -/
namespace K01
open PySem PySem.Spec PyProof.Rows L2 Mine
theorem kit_no {K : PySem.W.Frag} {C D : Addr} (iD : PySem.W.isClsIn K D = true) (tD : PySem.W.typeIn K (.ref D) = some (.type "type")) (s : PySem.W.subIn K (.ref C) (.ref D) = some false) (self : PySem.W.subIn K (.ref C) (.ref C) = some true) : PySem.W.kitOne K (.ref C) (.ref D) = some false := by
  have ne : (Value.ref C == Value.ref D) = false := by
    refine beq_eq_false_iff_ne.mpr fun q => ?_
    rw [← q, self] at s
    cases s
  unfold PySem.W.kitOne
  rw [ne, if_neg Bool.false_ne_true]
  show (if ((PySem.W.clsIn K D).isSome && PySem.W.typeIn K (.ref D) == some (.type "type")) = true then PySem.W.subIn K (.ref C) (.ref D) else none) = some false
  have i2 : (PySem.W.clsIn K D).isSome = true := iD
  rw [i2, tD, s]
  rfl
theorem kit_yes {K : PySem.W.Frag} {C D : Addr} (iD : PySem.W.isClsIn K D = true) (tD : PySem.W.typeIn K (.ref D) = some (.type "type")) (s : PySem.W.subIn K (.ref C) (.ref D) = some true) : PySem.W.kitOne K (.ref C) (.ref D) = some true := by
  unfold PySem.W.kitOne
  by_cases q : (Value.ref C == Value.ref D) = true
  · rw [if_pos q]
  · rw [if_neg q]
    show (if ((PySem.W.clsIn K D).isSome && PySem.W.typeIn K (.ref D) == some (.type "type")) = true then PySem.W.subIn K (.ref C) (.ref D) else none) = some true
    have i2 : (PySem.W.clsIn K D).isSome = true := iD
    rw [i2, tD, s]
    rfl
theorem kit_bi {K : PySem.W.Frag} {C : Addr} {T : String} {b : Bool} (m : PySem.W.kitMeta T = true) (s : PySem.W.subIn K (.ref C) (.type T) = some b) : PySem.W.kitOne K (.ref C) (.type T) = some b := by
  unfold PySem.W.kitOne
  rw [if_neg (show ¬ (Value.ref C == Value.type T) = true from fun q => by
    have z : Value.ref C = Value.type T := beq_iff_eq.mp q
    cases z)]
  show (if PySem.W.kitMeta T = true then PySem.W.subIn K (.ref C) (.type T) else none) = some b
  rw [if_pos m, s]
abbrev sI0 : Stmt := inClass (top 2) 0
theorem ini0 : Ini "BadBook.__init__" sI0 "part" := ⟨⟨_, _, _, _, rfl⟩, rfl, rfl, rfl, rfl, fun _ _ _ _ _ _ _ _ => rfl, fun _ _ _ _ _ _ _ _ => by with_unfolding_all rfl, by decide, by decide⟩
abbrev sI1 : Stmt := inClass (top 3) 0
theorem ini1 : Ini "BadThing.__init__" sI1 "thing" := ⟨⟨_, _, _, _, rfl⟩, rfl, rfl, rfl, rfl, fun _ _ _ _ _ _ _ _ => rfl, fun _ _ _ _ _ _ _ _ => by with_unfolding_all rfl, by decide, by decide⟩
abbrev sI2 : Stmt := inClass (top 4) 0
theorem ini2 : Ini "BadRow.__init__" sI2 "part" := ⟨⟨_, _, _, _, rfl⟩, rfl, rfl, rfl, rfl, fun _ _ _ _ _ _ _ _ => rfl, fun _ _ _ _ _ _ _ _ => by with_unfolding_all rfl, by decide, by decide⟩
abbrev sI3 : Stmt := inClass (top 5) 0
theorem ini3 : Ini "BadText.__init__" sI3 "line" := ⟨⟨_, _, _, _, rfl⟩, rfl, rfl, rfl, rfl, fun _ _ _ _ _ _ _ _ => rfl, fun _ _ _ _ _ _ _ _ => by with_unfolding_all rfl, by decide, by decide⟩
abbrev sI4 : Stmt := inClass (top 6) 0
theorem ini4 : Ini "NotHad.__init__" sI4 "paper" := ⟨⟨_, _, _, _, rfl⟩, rfl, rfl, rfl, rfl, fun _ _ _ _ _ _ _ _ => rfl, fun _ _ _ _ _ _ _ _ => by with_unfolding_all rfl, by decide, by decide⟩
abbrev sI5 : Stmt := inClass (top 7) 0
theorem ini5 : Ini "Mismatch.__init__" sI5 "part" := ⟨⟨_, _, _, _, rfl⟩, rfl, rfl, rfl, rfl, fun _ _ _ _ _ _ _ _ => rfl, fun _ _ _ _ _ _ _ _ => by with_unfolding_all rfl, by decide, by decide⟩
section
variable {P : Program} {w : World} {K : PySem.W.Frag} {mg : Str → Option Value}
def cOf (C0 C1 C2 C3 C4 C5 C6 C7 C8 : Addr) : Nat → Addr
  | 0 => C0
  | 1 => C1
  | 2 => C2
  | 3 => C3
  | 4 => C4
  | 5 => C5
  | 6 => C6
  | 7 => C7
  | _ => C8
def jOf (J0 J1 J2 J3 J4 J5 : Addr) : Nat → Addr
  | 0 => J0
  | 1 => J1
  | 2 => J2
  | 3 => J3
  | 4 => J4
  | _ => J5
theorem err_mk {h : Heap} (X : K.In h) (G : h.Ns mainGlobals mg)
    {se C0 C1 C2 C3 C4 C5 C6 C7 C8 J0 J1 J2 J3 J4 J5 : Addr}
    {oj0 aj0 oj1 aj1 oj2 aj2 oj3 aj3 oj4 aj4 oj5 aj5 : Option Addr}
    {sj0 sj1 sj2 sj3 sj4 sj5 : Array (Option Value)}
    {cj0 kj0 dj0 pj0 ej0 tj0 cj1 kj1 dj1 pj1 ej1 tj1 cj2 kj2 dj2 pj2 ej2 tj2 cj3 kj3 dj3 pj3 ej3 tj3 cj4 kj4 dj4 pj4 ej4 tj4 cj5 kj5 dj5 pj5 ej5 tj5 : Value}
    (a_se : PySem.W.nsIn K mainGlobals "SealError" = some (some (.ref se)))
    (i_se : PySem.W.isClsIn K se = true)
    (t_se : PySem.W.typeIn K (.ref se) = some (.type "type"))
    (b_se : PySem.W.subIn K (.ref se) (.type "BaseException") = some true)
    (h_se : PySem.W.hasDictIn K se = true)
    (cn : PySem.W.specialIn K (.builtin "object.__class__") "__get__" = some (some (.builtin "getset_descriptor.__get__")))
    (ct : PySem.W.takesIn K (.builtin "object.__class__") = some true)
    (g0 : PySem.W.nsIn K mainGlobals "BadBook" = some (some (.ref C0)))
    (kp0 : PySem.W.keepIn K (.ref C0) = true)
    (cl0 : PySem.W.isClsIn K C0 = true)
    (ga0 : PySem.W.findIn K (.ref C0) "__getattribute__" = some (some (.builtin "BaseException.__getattribute__")))
    (gg0 : PySem.W.findIn K (.ref C0) "__getattr__" = some none)
    (su0 : PySem.W.subIn K (.ref C0) (.type "BaseException") = some true)
    (ca0 : PySem.W.findIn K (.ref C0) "__class__" = some (some (.builtin "object.__class__")))
    (cm0 : PySem.W.mroIn K C0 (.type "object") = some true)
    (ty0 : PySem.W.typeIn K (.ref C0) = some (.type "type"))
    (hd0 : PySem.W.hasDictIn K C0 = true)
    (new0 : PySem.W.excInitIn K C0 chain "Exception.__new__" = true)
    (ov0 : PySem.W.excOver K C0 chain = true)
    (sa0 : PySem.W.findIn K (.ref C0) "__setattr__" = some (some (.builtin "object.__setattr__")))
    (tk0 : PySem.W.takerIn K C0 "part" = some none)
    (no0 : PySem.W.findIn K (.ref C0) "part" = some none)
    (in0 : PySem.W.findIn K (.ref C0) "__init__" = some (some (.ref J0)))
    (ti0 : PySem.W.typeIn K (.ref J0) = some (.type "function"))
    (li0 : K.lookup J0 = some ⟨cj0, oj0, .func (PySem.W.fnOf "__init__" "BadBook.__init__" (defArgs sI0) (defBody sI0) (defScope sI0) .none kj0 dj0 pj0 aj0 ej0 tj0), sj0⟩)
    (ci0 : PySem.W.codeIn K ej0 "BadBook.__init__" = true)
    (ki0 : PySem.W.keepIn K (.ref J0) = true)
    (ss0 : PySem.W.subIn K (.ref C0) (.ref se) = some true)
    (se0 : PySem.W.subIn K (.ref C0) (.type "Exception") = some true)
    (sb0_0 : PySem.W.subIn K (.ref C0) (.type "ValueError") = some false)
    (sb0_1 : PySem.W.subIn K (.ref C0) (.type "LookupError") = some false)
    (sb0_2 : PySem.W.subIn K (.ref C0) (.type "ArithmeticError") = some false)
    (sb0_3 : PySem.W.subIn K (.ref C0) (.type "TypeError") = some false)
    (sb0_4 : PySem.W.subIn K (.ref C0) (.type "AttributeError") = some false)
    (sb0_5 : PySem.W.subIn K (.ref C0) (.type "RuntimeError") = some false)
    (s0_0 : PySem.W.subIn K (.ref C0) (.ref C0) = some true)
    (s0_1 : PySem.W.subIn K (.ref C0) (.ref C1) = some false)
    (s0_2 : PySem.W.subIn K (.ref C0) (.ref C2) = some false)
    (s0_3 : PySem.W.subIn K (.ref C0) (.ref C3) = some false)
    (s0_4 : PySem.W.subIn K (.ref C0) (.ref C4) = some false)
    (s0_5 : PySem.W.subIn K (.ref C0) (.ref C5) = some false)
    (s0_6 : PySem.W.subIn K (.ref C0) (.ref C6) = some false)
    (s0_7 : PySem.W.subIn K (.ref C0) (.ref C7) = some false)
    (s0_8 : PySem.W.subIn K (.ref C0) (.ref C8) = some false)
    (g1 : PySem.W.nsIn K mainGlobals "BadThing" = some (some (.ref C1)))
    (kp1 : PySem.W.keepIn K (.ref C1) = true)
    (cl1 : PySem.W.isClsIn K C1 = true)
    (ga1 : PySem.W.findIn K (.ref C1) "__getattribute__" = some (some (.builtin "BaseException.__getattribute__")))
    (gg1 : PySem.W.findIn K (.ref C1) "__getattr__" = some none)
    (su1 : PySem.W.subIn K (.ref C1) (.type "BaseException") = some true)
    (ca1 : PySem.W.findIn K (.ref C1) "__class__" = some (some (.builtin "object.__class__")))
    (cm1 : PySem.W.mroIn K C1 (.type "object") = some true)
    (ty1 : PySem.W.typeIn K (.ref C1) = some (.type "type"))
    (hd1 : PySem.W.hasDictIn K C1 = true)
    (new1 : PySem.W.excInitIn K C1 chain "Exception.__new__" = true)
    (ov1 : PySem.W.excOver K C1 chain = true)
    (sa1 : PySem.W.findIn K (.ref C1) "__setattr__" = some (some (.builtin "object.__setattr__")))
    (tk1 : PySem.W.takerIn K C1 "thing" = some none)
    (no1 : PySem.W.findIn K (.ref C1) "thing" = some none)
    (in1 : PySem.W.findIn K (.ref C1) "__init__" = some (some (.ref J1)))
    (ti1 : PySem.W.typeIn K (.ref J1) = some (.type "function"))
    (li1 : K.lookup J1 = some ⟨cj1, oj1, .func (PySem.W.fnOf "__init__" "BadThing.__init__" (defArgs sI1) (defBody sI1) (defScope sI1) .none kj1 dj1 pj1 aj1 ej1 tj1), sj1⟩)
    (ci1 : PySem.W.codeIn K ej1 "BadThing.__init__" = true)
    (ki1 : PySem.W.keepIn K (.ref J1) = true)
    (ss1 : PySem.W.subIn K (.ref C1) (.ref se) = some true)
    (se1 : PySem.W.subIn K (.ref C1) (.type "Exception") = some true)
    (sb1_0 : PySem.W.subIn K (.ref C1) (.type "ValueError") = some false)
    (sb1_1 : PySem.W.subIn K (.ref C1) (.type "LookupError") = some false)
    (sb1_2 : PySem.W.subIn K (.ref C1) (.type "ArithmeticError") = some false)
    (sb1_3 : PySem.W.subIn K (.ref C1) (.type "TypeError") = some false)
    (sb1_4 : PySem.W.subIn K (.ref C1) (.type "AttributeError") = some false)
    (sb1_5 : PySem.W.subIn K (.ref C1) (.type "RuntimeError") = some false)
    (s1_0 : PySem.W.subIn K (.ref C1) (.ref C0) = some false)
    (s1_1 : PySem.W.subIn K (.ref C1) (.ref C1) = some true)
    (s1_2 : PySem.W.subIn K (.ref C1) (.ref C2) = some false)
    (s1_3 : PySem.W.subIn K (.ref C1) (.ref C3) = some false)
    (s1_4 : PySem.W.subIn K (.ref C1) (.ref C4) = some false)
    (s1_5 : PySem.W.subIn K (.ref C1) (.ref C5) = some false)
    (s1_6 : PySem.W.subIn K (.ref C1) (.ref C6) = some false)
    (s1_7 : PySem.W.subIn K (.ref C1) (.ref C7) = some false)
    (s1_8 : PySem.W.subIn K (.ref C1) (.ref C8) = some false)
    (g2 : PySem.W.nsIn K mainGlobals "BadRow" = some (some (.ref C2)))
    (kp2 : PySem.W.keepIn K (.ref C2) = true)
    (cl2 : PySem.W.isClsIn K C2 = true)
    (ga2 : PySem.W.findIn K (.ref C2) "__getattribute__" = some (some (.builtin "BaseException.__getattribute__")))
    (gg2 : PySem.W.findIn K (.ref C2) "__getattr__" = some none)
    (su2 : PySem.W.subIn K (.ref C2) (.type "BaseException") = some true)
    (ca2 : PySem.W.findIn K (.ref C2) "__class__" = some (some (.builtin "object.__class__")))
    (cm2 : PySem.W.mroIn K C2 (.type "object") = some true)
    (ty2 : PySem.W.typeIn K (.ref C2) = some (.type "type"))
    (hd2 : PySem.W.hasDictIn K C2 = true)
    (new2 : PySem.W.excInitIn K C2 chain "Exception.__new__" = true)
    (ov2 : PySem.W.excOver K C2 chain = true)
    (sa2 : PySem.W.findIn K (.ref C2) "__setattr__" = some (some (.builtin "object.__setattr__")))
    (tk2 : PySem.W.takerIn K C2 "part" = some none)
    (no2 : PySem.W.findIn K (.ref C2) "part" = some none)
    (in2 : PySem.W.findIn K (.ref C2) "__init__" = some (some (.ref J2)))
    (ti2 : PySem.W.typeIn K (.ref J2) = some (.type "function"))
    (li2 : K.lookup J2 = some ⟨cj2, oj2, .func (PySem.W.fnOf "__init__" "BadRow.__init__" (defArgs sI2) (defBody sI2) (defScope sI2) .none kj2 dj2 pj2 aj2 ej2 tj2), sj2⟩)
    (ci2 : PySem.W.codeIn K ej2 "BadRow.__init__" = true)
    (ki2 : PySem.W.keepIn K (.ref J2) = true)
    (ss2 : PySem.W.subIn K (.ref C2) (.ref se) = some true)
    (se2 : PySem.W.subIn K (.ref C2) (.type "Exception") = some true)
    (sb2_0 : PySem.W.subIn K (.ref C2) (.type "ValueError") = some false)
    (sb2_1 : PySem.W.subIn K (.ref C2) (.type "LookupError") = some false)
    (sb2_2 : PySem.W.subIn K (.ref C2) (.type "ArithmeticError") = some false)
    (sb2_3 : PySem.W.subIn K (.ref C2) (.type "TypeError") = some false)
    (sb2_4 : PySem.W.subIn K (.ref C2) (.type "AttributeError") = some false)
    (sb2_5 : PySem.W.subIn K (.ref C2) (.type "RuntimeError") = some false)
    (s2_0 : PySem.W.subIn K (.ref C2) (.ref C0) = some false)
    (s2_1 : PySem.W.subIn K (.ref C2) (.ref C1) = some false)
    (s2_2 : PySem.W.subIn K (.ref C2) (.ref C2) = some true)
    (s2_3 : PySem.W.subIn K (.ref C2) (.ref C3) = some false)
    (s2_4 : PySem.W.subIn K (.ref C2) (.ref C4) = some false)
    (s2_5 : PySem.W.subIn K (.ref C2) (.ref C5) = some false)
    (s2_6 : PySem.W.subIn K (.ref C2) (.ref C6) = some false)
    (s2_7 : PySem.W.subIn K (.ref C2) (.ref C7) = some false)
    (s2_8 : PySem.W.subIn K (.ref C2) (.ref C8) = some false)
    (g3 : PySem.W.nsIn K mainGlobals "BadText" = some (some (.ref C3)))
    (kp3 : PySem.W.keepIn K (.ref C3) = true)
    (cl3 : PySem.W.isClsIn K C3 = true)
    (ga3 : PySem.W.findIn K (.ref C3) "__getattribute__" = some (some (.builtin "BaseException.__getattribute__")))
    (gg3 : PySem.W.findIn K (.ref C3) "__getattr__" = some none)
    (su3 : PySem.W.subIn K (.ref C3) (.type "BaseException") = some true)
    (ca3 : PySem.W.findIn K (.ref C3) "__class__" = some (some (.builtin "object.__class__")))
    (cm3 : PySem.W.mroIn K C3 (.type "object") = some true)
    (ty3 : PySem.W.typeIn K (.ref C3) = some (.type "type"))
    (hd3 : PySem.W.hasDictIn K C3 = true)
    (new3 : PySem.W.excInitIn K C3 chain "Exception.__new__" = true)
    (ov3 : PySem.W.excOver K C3 chain = true)
    (sa3 : PySem.W.findIn K (.ref C3) "__setattr__" = some (some (.builtin "object.__setattr__")))
    (tk3 : PySem.W.takerIn K C3 "line" = some none)
    (no3 : PySem.W.findIn K (.ref C3) "line" = some none)
    (in3 : PySem.W.findIn K (.ref C3) "__init__" = some (some (.ref J3)))
    (ti3 : PySem.W.typeIn K (.ref J3) = some (.type "function"))
    (li3 : K.lookup J3 = some ⟨cj3, oj3, .func (PySem.W.fnOf "__init__" "BadText.__init__" (defArgs sI3) (defBody sI3) (defScope sI3) .none kj3 dj3 pj3 aj3 ej3 tj3), sj3⟩)
    (ci3 : PySem.W.codeIn K ej3 "BadText.__init__" = true)
    (ki3 : PySem.W.keepIn K (.ref J3) = true)
    (ss3 : PySem.W.subIn K (.ref C3) (.ref se) = some true)
    (se3 : PySem.W.subIn K (.ref C3) (.type "Exception") = some true)
    (sb3_0 : PySem.W.subIn K (.ref C3) (.type "ValueError") = some false)
    (sb3_1 : PySem.W.subIn K (.ref C3) (.type "LookupError") = some false)
    (sb3_2 : PySem.W.subIn K (.ref C3) (.type "ArithmeticError") = some false)
    (sb3_3 : PySem.W.subIn K (.ref C3) (.type "TypeError") = some false)
    (sb3_4 : PySem.W.subIn K (.ref C3) (.type "AttributeError") = some false)
    (sb3_5 : PySem.W.subIn K (.ref C3) (.type "RuntimeError") = some false)
    (s3_0 : PySem.W.subIn K (.ref C3) (.ref C0) = some false)
    (s3_1 : PySem.W.subIn K (.ref C3) (.ref C1) = some false)
    (s3_2 : PySem.W.subIn K (.ref C3) (.ref C2) = some false)
    (s3_3 : PySem.W.subIn K (.ref C3) (.ref C3) = some true)
    (s3_4 : PySem.W.subIn K (.ref C3) (.ref C4) = some false)
    (s3_5 : PySem.W.subIn K (.ref C3) (.ref C5) = some false)
    (s3_6 : PySem.W.subIn K (.ref C3) (.ref C6) = some false)
    (s3_7 : PySem.W.subIn K (.ref C3) (.ref C7) = some false)
    (s3_8 : PySem.W.subIn K (.ref C3) (.ref C8) = some false)
    (g4 : PySem.W.nsIn K mainGlobals "NotHad" = some (some (.ref C4)))
    (kp4 : PySem.W.keepIn K (.ref C4) = true)
    (cl4 : PySem.W.isClsIn K C4 = true)
    (ga4 : PySem.W.findIn K (.ref C4) "__getattribute__" = some (some (.builtin "BaseException.__getattribute__")))
    (gg4 : PySem.W.findIn K (.ref C4) "__getattr__" = some none)
    (su4 : PySem.W.subIn K (.ref C4) (.type "BaseException") = some true)
    (ca4 : PySem.W.findIn K (.ref C4) "__class__" = some (some (.builtin "object.__class__")))
    (cm4 : PySem.W.mroIn K C4 (.type "object") = some true)
    (ty4 : PySem.W.typeIn K (.ref C4) = some (.type "type"))
    (hd4 : PySem.W.hasDictIn K C4 = true)
    (new4 : PySem.W.excInitIn K C4 chain "Exception.__new__" = true)
    (ov4 : PySem.W.excOver K C4 chain = true)
    (sa4 : PySem.W.findIn K (.ref C4) "__setattr__" = some (some (.builtin "object.__setattr__")))
    (tk4 : PySem.W.takerIn K C4 "paper" = some none)
    (no4 : PySem.W.findIn K (.ref C4) "paper" = some none)
    (in4 : PySem.W.findIn K (.ref C4) "__init__" = some (some (.ref J4)))
    (ti4 : PySem.W.typeIn K (.ref J4) = some (.type "function"))
    (li4 : K.lookup J4 = some ⟨cj4, oj4, .func (PySem.W.fnOf "__init__" "NotHad.__init__" (defArgs sI4) (defBody sI4) (defScope sI4) .none kj4 dj4 pj4 aj4 ej4 tj4), sj4⟩)
    (ci4 : PySem.W.codeIn K ej4 "NotHad.__init__" = true)
    (ki4 : PySem.W.keepIn K (.ref J4) = true)
    (ss4 : PySem.W.subIn K (.ref C4) (.ref se) = some true)
    (se4 : PySem.W.subIn K (.ref C4) (.type "Exception") = some true)
    (sb4_0 : PySem.W.subIn K (.ref C4) (.type "ValueError") = some false)
    (sb4_1 : PySem.W.subIn K (.ref C4) (.type "LookupError") = some false)
    (sb4_2 : PySem.W.subIn K (.ref C4) (.type "ArithmeticError") = some false)
    (sb4_3 : PySem.W.subIn K (.ref C4) (.type "TypeError") = some false)
    (sb4_4 : PySem.W.subIn K (.ref C4) (.type "AttributeError") = some false)
    (sb4_5 : PySem.W.subIn K (.ref C4) (.type "RuntimeError") = some false)
    (s4_0 : PySem.W.subIn K (.ref C4) (.ref C0) = some false)
    (s4_1 : PySem.W.subIn K (.ref C4) (.ref C1) = some false)
    (s4_2 : PySem.W.subIn K (.ref C4) (.ref C2) = some false)
    (s4_3 : PySem.W.subIn K (.ref C4) (.ref C3) = some false)
    (s4_4 : PySem.W.subIn K (.ref C4) (.ref C4) = some true)
    (s4_5 : PySem.W.subIn K (.ref C4) (.ref C5) = some false)
    (s4_6 : PySem.W.subIn K (.ref C4) (.ref C6) = some false)
    (s4_7 : PySem.W.subIn K (.ref C4) (.ref C7) = some false)
    (s4_8 : PySem.W.subIn K (.ref C4) (.ref C8) = some false)
    (g5 : PySem.W.nsIn K mainGlobals "Mismatch" = some (some (.ref C5)))
    (kp5 : PySem.W.keepIn K (.ref C5) = true)
    (cl5 : PySem.W.isClsIn K C5 = true)
    (ga5 : PySem.W.findIn K (.ref C5) "__getattribute__" = some (some (.builtin "BaseException.__getattribute__")))
    (gg5 : PySem.W.findIn K (.ref C5) "__getattr__" = some none)
    (su5 : PySem.W.subIn K (.ref C5) (.type "BaseException") = some true)
    (ca5 : PySem.W.findIn K (.ref C5) "__class__" = some (some (.builtin "object.__class__")))
    (cm5 : PySem.W.mroIn K C5 (.type "object") = some true)
    (ty5 : PySem.W.typeIn K (.ref C5) = some (.type "type"))
    (hd5 : PySem.W.hasDictIn K C5 = true)
    (new5 : PySem.W.excInitIn K C5 chain "Exception.__new__" = true)
    (ov5 : PySem.W.excOver K C5 chain = true)
    (sa5 : PySem.W.findIn K (.ref C5) "__setattr__" = some (some (.builtin "object.__setattr__")))
    (tk5 : PySem.W.takerIn K C5 "part" = some none)
    (no5 : PySem.W.findIn K (.ref C5) "part" = some none)
    (in5 : PySem.W.findIn K (.ref C5) "__init__" = some (some (.ref J5)))
    (ti5 : PySem.W.typeIn K (.ref J5) = some (.type "function"))
    (li5 : K.lookup J5 = some ⟨cj5, oj5, .func (PySem.W.fnOf "__init__" "Mismatch.__init__" (defArgs sI5) (defBody sI5) (defScope sI5) .none kj5 dj5 pj5 aj5 ej5 tj5), sj5⟩)
    (ci5 : PySem.W.codeIn K ej5 "Mismatch.__init__" = true)
    (ki5 : PySem.W.keepIn K (.ref J5) = true)
    (ss5 : PySem.W.subIn K (.ref C5) (.ref se) = some true)
    (se5 : PySem.W.subIn K (.ref C5) (.type "Exception") = some true)
    (sb5_0 : PySem.W.subIn K (.ref C5) (.type "ValueError") = some false)
    (sb5_1 : PySem.W.subIn K (.ref C5) (.type "LookupError") = some false)
    (sb5_2 : PySem.W.subIn K (.ref C5) (.type "ArithmeticError") = some false)
    (sb5_3 : PySem.W.subIn K (.ref C5) (.type "TypeError") = some false)
    (sb5_4 : PySem.W.subIn K (.ref C5) (.type "AttributeError") = some false)
    (sb5_5 : PySem.W.subIn K (.ref C5) (.type "RuntimeError") = some false)
    (s5_0 : PySem.W.subIn K (.ref C5) (.ref C0) = some false)
    (s5_1 : PySem.W.subIn K (.ref C5) (.ref C1) = some false)
    (s5_2 : PySem.W.subIn K (.ref C5) (.ref C2) = some false)
    (s5_3 : PySem.W.subIn K (.ref C5) (.ref C3) = some false)
    (s5_4 : PySem.W.subIn K (.ref C5) (.ref C4) = some false)
    (s5_5 : PySem.W.subIn K (.ref C5) (.ref C5) = some true)
    (s5_6 : PySem.W.subIn K (.ref C5) (.ref C6) = some false)
    (s5_7 : PySem.W.subIn K (.ref C5) (.ref C7) = some false)
    (s5_8 : PySem.W.subIn K (.ref C5) (.ref C8) = some false)
    (g6 : PySem.W.nsIn K mainGlobals "NothingToUndo" = some (some (.ref C6)))
    (kp6 : PySem.W.keepIn K (.ref C6) = true)
    (cl6 : PySem.W.isClsIn K C6 = true)
    (ga6 : PySem.W.findIn K (.ref C6) "__getattribute__" = some (some (.builtin "BaseException.__getattribute__")))
    (gg6 : PySem.W.findIn K (.ref C6) "__getattr__" = some none)
    (su6 : PySem.W.subIn K (.ref C6) (.type "BaseException") = some true)
    (ca6 : PySem.W.findIn K (.ref C6) "__class__" = some (some (.builtin "object.__class__")))
    (cm6 : PySem.W.mroIn K C6 (.type "object") = some true)
    (ty6 : PySem.W.typeIn K (.ref C6) = some (.type "type"))
    (hd6 : PySem.W.hasDictIn K C6 = true)
    (new6 : PySem.W.excIn K C6 chain "Exception.__new__" = true)
    (ss6 : PySem.W.subIn K (.ref C6) (.ref se) = some true)
    (se6 : PySem.W.subIn K (.ref C6) (.type "Exception") = some true)
    (sb6_0 : PySem.W.subIn K (.ref C6) (.type "ValueError") = some false)
    (sb6_1 : PySem.W.subIn K (.ref C6) (.type "LookupError") = some false)
    (sb6_2 : PySem.W.subIn K (.ref C6) (.type "ArithmeticError") = some false)
    (sb6_3 : PySem.W.subIn K (.ref C6) (.type "TypeError") = some false)
    (sb6_4 : PySem.W.subIn K (.ref C6) (.type "AttributeError") = some false)
    (sb6_5 : PySem.W.subIn K (.ref C6) (.type "RuntimeError") = some false)
    (s6_0 : PySem.W.subIn K (.ref C6) (.ref C0) = some false)
    (s6_1 : PySem.W.subIn K (.ref C6) (.ref C1) = some false)
    (s6_2 : PySem.W.subIn K (.ref C6) (.ref C2) = some false)
    (s6_3 : PySem.W.subIn K (.ref C6) (.ref C3) = some false)
    (s6_4 : PySem.W.subIn K (.ref C6) (.ref C4) = some false)
    (s6_5 : PySem.W.subIn K (.ref C6) (.ref C5) = some false)
    (s6_6 : PySem.W.subIn K (.ref C6) (.ref C6) = some true)
    (s6_7 : PySem.W.subIn K (.ref C6) (.ref C7) = some false)
    (s6_8 : PySem.W.subIn K (.ref C6) (.ref C8) = some false)
    (g7 : PySem.W.nsIn K mainGlobals "NothingToRedo" = some (some (.ref C7)))
    (kp7 : PySem.W.keepIn K (.ref C7) = true)
    (cl7 : PySem.W.isClsIn K C7 = true)
    (ga7 : PySem.W.findIn K (.ref C7) "__getattribute__" = some (some (.builtin "BaseException.__getattribute__")))
    (gg7 : PySem.W.findIn K (.ref C7) "__getattr__" = some none)
    (su7 : PySem.W.subIn K (.ref C7) (.type "BaseException") = some true)
    (ca7 : PySem.W.findIn K (.ref C7) "__class__" = some (some (.builtin "object.__class__")))
    (cm7 : PySem.W.mroIn K C7 (.type "object") = some true)
    (ty7 : PySem.W.typeIn K (.ref C7) = some (.type "type"))
    (hd7 : PySem.W.hasDictIn K C7 = true)
    (new7 : PySem.W.excIn K C7 chain "Exception.__new__" = true)
    (ss7 : PySem.W.subIn K (.ref C7) (.ref se) = some true)
    (se7 : PySem.W.subIn K (.ref C7) (.type "Exception") = some true)
    (sb7_0 : PySem.W.subIn K (.ref C7) (.type "ValueError") = some false)
    (sb7_1 : PySem.W.subIn K (.ref C7) (.type "LookupError") = some false)
    (sb7_2 : PySem.W.subIn K (.ref C7) (.type "ArithmeticError") = some false)
    (sb7_3 : PySem.W.subIn K (.ref C7) (.type "TypeError") = some false)
    (sb7_4 : PySem.W.subIn K (.ref C7) (.type "AttributeError") = some false)
    (sb7_5 : PySem.W.subIn K (.ref C7) (.type "RuntimeError") = some false)
    (s7_0 : PySem.W.subIn K (.ref C7) (.ref C0) = some false)
    (s7_1 : PySem.W.subIn K (.ref C7) (.ref C1) = some false)
    (s7_2 : PySem.W.subIn K (.ref C7) (.ref C2) = some false)
    (s7_3 : PySem.W.subIn K (.ref C7) (.ref C3) = some false)
    (s7_4 : PySem.W.subIn K (.ref C7) (.ref C4) = some false)
    (s7_5 : PySem.W.subIn K (.ref C7) (.ref C5) = some false)
    (s7_6 : PySem.W.subIn K (.ref C7) (.ref C6) = some false)
    (s7_7 : PySem.W.subIn K (.ref C7) (.ref C7) = some true)
    (s7_8 : PySem.W.subIn K (.ref C7) (.ref C8) = some false)
    (g8 : PySem.W.nsIn K mainGlobals "InvalidCommand" = some (some (.ref C8)))
    (kp8 : PySem.W.keepIn K (.ref C8) = true)
    (cl8 : PySem.W.isClsIn K C8 = true)
    (ga8 : PySem.W.findIn K (.ref C8) "__getattribute__" = some (some (.builtin "BaseException.__getattribute__")))
    (gg8 : PySem.W.findIn K (.ref C8) "__getattr__" = some none)
    (su8 : PySem.W.subIn K (.ref C8) (.type "BaseException") = some true)
    (ca8 : PySem.W.findIn K (.ref C8) "__class__" = some (some (.builtin "object.__class__")))
    (cm8 : PySem.W.mroIn K C8 (.type "object") = some true)
    (ty8 : PySem.W.typeIn K (.ref C8) = some (.type "type"))
    (hd8 : PySem.W.hasDictIn K C8 = true)
    (new8 : PySem.W.excIn K C8 chain "Exception.__new__" = true)
    (ss8 : PySem.W.subIn K (.ref C8) (.ref se) = some true)
    (se8 : PySem.W.subIn K (.ref C8) (.type "Exception") = some true)
    (sb8_0 : PySem.W.subIn K (.ref C8) (.type "ValueError") = some false)
    (sb8_1 : PySem.W.subIn K (.ref C8) (.type "LookupError") = some false)
    (sb8_2 : PySem.W.subIn K (.ref C8) (.type "ArithmeticError") = some false)
    (sb8_3 : PySem.W.subIn K (.ref C8) (.type "TypeError") = some false)
    (sb8_4 : PySem.W.subIn K (.ref C8) (.type "AttributeError") = some false)
    (sb8_5 : PySem.W.subIn K (.ref C8) (.type "RuntimeError") = some false)
    (s8_0 : PySem.W.subIn K (.ref C8) (.ref C0) = some false)
    (s8_1 : PySem.W.subIn K (.ref C8) (.ref C1) = some false)
    (s8_2 : PySem.W.subIn K (.ref C8) (.ref C2) = some false)
    (s8_3 : PySem.W.subIn K (.ref C8) (.ref C3) = some false)
    (s8_4 : PySem.W.subIn K (.ref C8) (.ref C4) = some false)
    (s8_5 : PySem.W.subIn K (.ref C8) (.ref C5) = some false)
    (s8_6 : PySem.W.subIn K (.ref C8) (.ref C6) = some false)
    (s8_7 : PySem.W.subIn K (.ref C8) (.ref C7) = some false)
    (s8_8 : PySem.W.subIn K (.ref C8) (.ref C8) = some true) :
    TxtE K mg (cOf C0 C1 C2 C3 C4 C5 C6 C7 C8) (jOf J0 J1 J2 J3 J4 J5) se where
  e0 := { kp := kp0, cl := cl0, ga := ga0, gg := gg0, su := su0, ca := ca0, cn := cn, ct := ct, cm := cm0, ty := ty0, hd := hd0, g := PySem.W.mg_of X G g0, new := new0, over := ov0, sa := sa0, tk := tk0, no := no0, ini := in0, tI := ti0, txt := ⟨_, _, _, fun_mk (st := sI0) li0 ci0 ki0, ini0⟩ }
  e1 := { kp := kp1, cl := cl1, ga := ga1, gg := gg1, su := su1, ca := ca1, cn := cn, ct := ct, cm := cm1, ty := ty1, hd := hd1, g := PySem.W.mg_of X G g1, new := new1, over := ov1, sa := sa1, tk := tk1, no := no1, ini := in1, tI := ti1, txt := ⟨_, _, _, fun_mk (st := sI1) li1 ci1 ki1, ini1⟩ }
  e2 := { kp := kp2, cl := cl2, ga := ga2, gg := gg2, su := su2, ca := ca2, cn := cn, ct := ct, cm := cm2, ty := ty2, hd := hd2, g := PySem.W.mg_of X G g2, new := new2, over := ov2, sa := sa2, tk := tk2, no := no2, ini := in2, tI := ti2, txt := ⟨_, _, _, fun_mk (st := sI2) li2 ci2 ki2, ini2⟩ }
  e3 := { kp := kp3, cl := cl3, ga := ga3, gg := gg3, su := su3, ca := ca3, cn := cn, ct := ct, cm := cm3, ty := ty3, hd := hd3, g := PySem.W.mg_of X G g3, new := new3, over := ov3, sa := sa3, tk := tk3, no := no3, ini := in3, tI := ti3, txt := ⟨_, _, _, fun_mk (st := sI3) li3 ci3 ki3, ini3⟩ }
  e4 := { kp := kp4, cl := cl4, ga := ga4, gg := gg4, su := su4, ca := ca4, cn := cn, ct := ct, cm := cm4, ty := ty4, hd := hd4, g := PySem.W.mg_of X G g4, new := new4, over := ov4, sa := sa4, tk := tk4, no := no4, ini := in4, tI := ti4, txt := ⟨_, _, _, fun_mk (st := sI4) li4 ci4 ki4, ini4⟩ }
  e5 := { kp := kp5, cl := cl5, ga := ga5, gg := gg5, su := su5, ca := ca5, cn := cn, ct := ct, cm := cm5, ty := ty5, hd := hd5, g := PySem.W.mg_of X G g5, new := new5, over := ov5, sa := sa5, tk := tk5, no := no5, ini := in5, tI := ti5, txt := ⟨_, _, _, fun_mk (st := sI5) li5 ci5 ki5, ini5⟩ }
  e6 := { kp := kp6, cl := cl6, ga := ga6, gg := gg6, su := su6, ca := ca6, cn := cn, ct := ct, cm := cm6, ty := ty6, hd := hd6, g := PySem.W.mg_of X G g6, new := new6 }
  e7 := { kp := kp7, cl := cl7, ga := ga7, gg := gg7, su := su7, ca := ca7, cn := cn, ct := ct, cm := cm7, ty := ty7, hd := hd7, g := PySem.W.mg_of X G g7, new := new7 }
  e8 := { kp := kp8, cl := cl8, ga := ga8, gg := gg8, su := su8, ca := ca8, cn := cn, ct := ct, cm := cm8, ty := ty8, hd := hd8, g := PySem.W.mg_of X G g8, new := new8 }
  gS := PySem.W.mg_of X G a_se
  kit := fun i j hi hj => match i, j, hi, hj with
    | 0, 0, _, _ => kit_yes cl0 ty0 s0_0
    | 0, 1, _, _ => kit_no cl1 ty1 s0_1 s0_0
    | 0, 2, _, _ => kit_no cl2 ty2 s0_2 s0_0
    | 0, 3, _, _ => kit_no cl3 ty3 s0_3 s0_0
    | 0, 4, _, _ => kit_no cl4 ty4 s0_4 s0_0
    | 0, 5, _, _ => kit_no cl5 ty5 s0_5 s0_0
    | 0, 6, _, _ => kit_no cl6 ty6 s0_6 s0_0
    | 0, 7, _, _ => kit_no cl7 ty7 s0_7 s0_0
    | 0, 8, _, _ => kit_no cl8 ty8 s0_8 s0_0
    | 1, 0, _, _ => kit_no cl0 ty0 s1_0 s1_1
    | 1, 1, _, _ => kit_yes cl1 ty1 s1_1
    | 1, 2, _, _ => kit_no cl2 ty2 s1_2 s1_1
    | 1, 3, _, _ => kit_no cl3 ty3 s1_3 s1_1
    | 1, 4, _, _ => kit_no cl4 ty4 s1_4 s1_1
    | 1, 5, _, _ => kit_no cl5 ty5 s1_5 s1_1
    | 1, 6, _, _ => kit_no cl6 ty6 s1_6 s1_1
    | 1, 7, _, _ => kit_no cl7 ty7 s1_7 s1_1
    | 1, 8, _, _ => kit_no cl8 ty8 s1_8 s1_1
    | 2, 0, _, _ => kit_no cl0 ty0 s2_0 s2_2
    | 2, 1, _, _ => kit_no cl1 ty1 s2_1 s2_2
    | 2, 2, _, _ => kit_yes cl2 ty2 s2_2
    | 2, 3, _, _ => kit_no cl3 ty3 s2_3 s2_2
    | 2, 4, _, _ => kit_no cl4 ty4 s2_4 s2_2
    | 2, 5, _, _ => kit_no cl5 ty5 s2_5 s2_2
    | 2, 6, _, _ => kit_no cl6 ty6 s2_6 s2_2
    | 2, 7, _, _ => kit_no cl7 ty7 s2_7 s2_2
    | 2, 8, _, _ => kit_no cl8 ty8 s2_8 s2_2
    | 3, 0, _, _ => kit_no cl0 ty0 s3_0 s3_3
    | 3, 1, _, _ => kit_no cl1 ty1 s3_1 s3_3
    | 3, 2, _, _ => kit_no cl2 ty2 s3_2 s3_3
    | 3, 3, _, _ => kit_yes cl3 ty3 s3_3
    | 3, 4, _, _ => kit_no cl4 ty4 s3_4 s3_3
    | 3, 5, _, _ => kit_no cl5 ty5 s3_5 s3_3
    | 3, 6, _, _ => kit_no cl6 ty6 s3_6 s3_3
    | 3, 7, _, _ => kit_no cl7 ty7 s3_7 s3_3
    | 3, 8, _, _ => kit_no cl8 ty8 s3_8 s3_3
    | 4, 0, _, _ => kit_no cl0 ty0 s4_0 s4_4
    | 4, 1, _, _ => kit_no cl1 ty1 s4_1 s4_4
    | 4, 2, _, _ => kit_no cl2 ty2 s4_2 s4_4
    | 4, 3, _, _ => kit_no cl3 ty3 s4_3 s4_4
    | 4, 4, _, _ => kit_yes cl4 ty4 s4_4
    | 4, 5, _, _ => kit_no cl5 ty5 s4_5 s4_4
    | 4, 6, _, _ => kit_no cl6 ty6 s4_6 s4_4
    | 4, 7, _, _ => kit_no cl7 ty7 s4_7 s4_4
    | 4, 8, _, _ => kit_no cl8 ty8 s4_8 s4_4
    | 5, 0, _, _ => kit_no cl0 ty0 s5_0 s5_5
    | 5, 1, _, _ => kit_no cl1 ty1 s5_1 s5_5
    | 5, 2, _, _ => kit_no cl2 ty2 s5_2 s5_5
    | 5, 3, _, _ => kit_no cl3 ty3 s5_3 s5_5
    | 5, 4, _, _ => kit_no cl4 ty4 s5_4 s5_5
    | 5, 5, _, _ => kit_yes cl5 ty5 s5_5
    | 5, 6, _, _ => kit_no cl6 ty6 s5_6 s5_5
    | 5, 7, _, _ => kit_no cl7 ty7 s5_7 s5_5
    | 5, 8, _, _ => kit_no cl8 ty8 s5_8 s5_5
    | 6, 0, _, _ => kit_no cl0 ty0 s6_0 s6_6
    | 6, 1, _, _ => kit_no cl1 ty1 s6_1 s6_6
    | 6, 2, _, _ => kit_no cl2 ty2 s6_2 s6_6
    | 6, 3, _, _ => kit_no cl3 ty3 s6_3 s6_6
    | 6, 4, _, _ => kit_no cl4 ty4 s6_4 s6_6
    | 6, 5, _, _ => kit_no cl5 ty5 s6_5 s6_6
    | 6, 6, _, _ => kit_yes cl6 ty6 s6_6
    | 6, 7, _, _ => kit_no cl7 ty7 s6_7 s6_6
    | 6, 8, _, _ => kit_no cl8 ty8 s6_8 s6_6
    | 7, 0, _, _ => kit_no cl0 ty0 s7_0 s7_7
    | 7, 1, _, _ => kit_no cl1 ty1 s7_1 s7_7
    | 7, 2, _, _ => kit_no cl2 ty2 s7_2 s7_7
    | 7, 3, _, _ => kit_no cl3 ty3 s7_3 s7_7
    | 7, 4, _, _ => kit_no cl4 ty4 s7_4 s7_7
    | 7, 5, _, _ => kit_no cl5 ty5 s7_5 s7_7
    | 7, 6, _, _ => kit_no cl6 ty6 s7_6 s7_7
    | 7, 7, _, _ => kit_yes cl7 ty7 s7_7
    | 7, 8, _, _ => kit_no cl8 ty8 s7_8 s7_7
    | 8, 0, _, _ => kit_no cl0 ty0 s8_0 s8_8
    | 8, 1, _, _ => kit_no cl1 ty1 s8_1 s8_8
    | 8, 2, _, _ => kit_no cl2 ty2 s8_2 s8_8
    | 8, 3, _, _ => kit_no cl3 ty3 s8_3 s8_8
    | 8, 4, _, _ => kit_no cl4 ty4 s8_4 s8_8
    | 8, 5, _, _ => kit_no cl5 ty5 s8_5 s8_8
    | 8, 6, _, _ => kit_no cl6 ty6 s8_6 s8_8
    | 8, 7, _, _ => kit_no cl7 ty7 s8_7 s8_8
    | 8, 8, _, _ => kit_yes cl8 ty8 s8_8
  kitS := fun i hi => match i, hi with
    | 0, _ => kit_yes i_se t_se ss0
    | 1, _ => kit_yes i_se t_se ss1
    | 2, _ => kit_yes i_se t_se ss2
    | 3, _ => kit_yes i_se t_se ss3
    | 4, _ => kit_yes i_se t_se ss4
    | 5, _ => kit_yes i_se t_se ss5
    | 6, _ => kit_yes i_se t_se ss6
    | 7, _ => kit_yes i_se t_se ss7
    | 8, _ => kit_yes i_se t_se ss8
  kitE := fun i hi => match i, hi with
    | 0, _ => kit_bi (by decide +kernel) se0
    | 1, _ => kit_bi (by decide +kernel) se1
    | 2, _ => kit_bi (by decide +kernel) se2
    | 3, _ => kit_bi (by decide +kernel) se3
    | 4, _ => kit_bi (by decide +kernel) se4
    | 5, _ => kit_bi (by decide +kernel) se5
    | 6, _ => kit_bi (by decide +kernel) se6
    | 7, _ => kit_bi (by decide +kernel) se7
    | 8, _ => kit_bi (by decide +kernel) se8
  kitN := fun i hi => match i, hi with
    | 0, _ => kitAny_cons (kit_bi (by decide +kernel) sb0_0) (fun _ => kitAny_cons (kit_bi (by decide +kernel) sb0_1) (fun _ => kitAny_cons (kit_bi (by decide +kernel) sb0_2) (fun _ => kitAny_cons (kit_bi (by decide +kernel) sb0_3) (fun _ => kitAny_cons (kit_bi (by decide +kernel) sb0_4) (fun _ => kitAny_cons (kit_bi (by decide +kernel) sb0_5) (fun _ => kitAny_nil) (fun z => Bool.noConfusion z)) (fun z => Bool.noConfusion z)) (fun z => Bool.noConfusion z)) (fun z => Bool.noConfusion z)) (fun z => Bool.noConfusion z)) (fun z => Bool.noConfusion z)
    | 1, _ => kitAny_cons (kit_bi (by decide +kernel) sb1_0) (fun _ => kitAny_cons (kit_bi (by decide +kernel) sb1_1) (fun _ => kitAny_cons (kit_bi (by decide +kernel) sb1_2) (fun _ => kitAny_cons (kit_bi (by decide +kernel) sb1_3) (fun _ => kitAny_cons (kit_bi (by decide +kernel) sb1_4) (fun _ => kitAny_cons (kit_bi (by decide +kernel) sb1_5) (fun _ => kitAny_nil) (fun z => Bool.noConfusion z)) (fun z => Bool.noConfusion z)) (fun z => Bool.noConfusion z)) (fun z => Bool.noConfusion z)) (fun z => Bool.noConfusion z)) (fun z => Bool.noConfusion z)
    | 2, _ => kitAny_cons (kit_bi (by decide +kernel) sb2_0) (fun _ => kitAny_cons (kit_bi (by decide +kernel) sb2_1) (fun _ => kitAny_cons (kit_bi (by decide +kernel) sb2_2) (fun _ => kitAny_cons (kit_bi (by decide +kernel) sb2_3) (fun _ => kitAny_cons (kit_bi (by decide +kernel) sb2_4) (fun _ => kitAny_cons (kit_bi (by decide +kernel) sb2_5) (fun _ => kitAny_nil) (fun z => Bool.noConfusion z)) (fun z => Bool.noConfusion z)) (fun z => Bool.noConfusion z)) (fun z => Bool.noConfusion z)) (fun z => Bool.noConfusion z)) (fun z => Bool.noConfusion z)
    | 3, _ => kitAny_cons (kit_bi (by decide +kernel) sb3_0) (fun _ => kitAny_cons (kit_bi (by decide +kernel) sb3_1) (fun _ => kitAny_cons (kit_bi (by decide +kernel) sb3_2) (fun _ => kitAny_cons (kit_bi (by decide +kernel) sb3_3) (fun _ => kitAny_cons (kit_bi (by decide +kernel) sb3_4) (fun _ => kitAny_cons (kit_bi (by decide +kernel) sb3_5) (fun _ => kitAny_nil) (fun z => Bool.noConfusion z)) (fun z => Bool.noConfusion z)) (fun z => Bool.noConfusion z)) (fun z => Bool.noConfusion z)) (fun z => Bool.noConfusion z)) (fun z => Bool.noConfusion z)
    | 4, _ => kitAny_cons (kit_bi (by decide +kernel) sb4_0) (fun _ => kitAny_cons (kit_bi (by decide +kernel) sb4_1) (fun _ => kitAny_cons (kit_bi (by decide +kernel) sb4_2) (fun _ => kitAny_cons (kit_bi (by decide +kernel) sb4_3) (fun _ => kitAny_cons (kit_bi (by decide +kernel) sb4_4) (fun _ => kitAny_cons (kit_bi (by decide +kernel) sb4_5) (fun _ => kitAny_nil) (fun z => Bool.noConfusion z)) (fun z => Bool.noConfusion z)) (fun z => Bool.noConfusion z)) (fun z => Bool.noConfusion z)) (fun z => Bool.noConfusion z)) (fun z => Bool.noConfusion z)
    | 5, _ => kitAny_cons (kit_bi (by decide +kernel) sb5_0) (fun _ => kitAny_cons (kit_bi (by decide +kernel) sb5_1) (fun _ => kitAny_cons (kit_bi (by decide +kernel) sb5_2) (fun _ => kitAny_cons (kit_bi (by decide +kernel) sb5_3) (fun _ => kitAny_cons (kit_bi (by decide +kernel) sb5_4) (fun _ => kitAny_cons (kit_bi (by decide +kernel) sb5_5) (fun _ => kitAny_nil) (fun z => Bool.noConfusion z)) (fun z => Bool.noConfusion z)) (fun z => Bool.noConfusion z)) (fun z => Bool.noConfusion z)) (fun z => Bool.noConfusion z)) (fun z => Bool.noConfusion z)
    | 6, _ => kitAny_cons (kit_bi (by decide +kernel) sb6_0) (fun _ => kitAny_cons (kit_bi (by decide +kernel) sb6_1) (fun _ => kitAny_cons (kit_bi (by decide +kernel) sb6_2) (fun _ => kitAny_cons (kit_bi (by decide +kernel) sb6_3) (fun _ => kitAny_cons (kit_bi (by decide +kernel) sb6_4) (fun _ => kitAny_cons (kit_bi (by decide +kernel) sb6_5) (fun _ => kitAny_nil) (fun z => Bool.noConfusion z)) (fun z => Bool.noConfusion z)) (fun z => Bool.noConfusion z)) (fun z => Bool.noConfusion z)) (fun z => Bool.noConfusion z)) (fun z => Bool.noConfusion z)
    | 7, _ => kitAny_cons (kit_bi (by decide +kernel) sb7_0) (fun _ => kitAny_cons (kit_bi (by decide +kernel) sb7_1) (fun _ => kitAny_cons (kit_bi (by decide +kernel) sb7_2) (fun _ => kitAny_cons (kit_bi (by decide +kernel) sb7_3) (fun _ => kitAny_cons (kit_bi (by decide +kernel) sb7_4) (fun _ => kitAny_cons (kit_bi (by decide +kernel) sb7_5) (fun _ => kitAny_nil) (fun z => Bool.noConfusion z)) (fun z => Bool.noConfusion z)) (fun z => Bool.noConfusion z)) (fun z => Bool.noConfusion z)) (fun z => Bool.noConfusion z)) (fun z => Bool.noConfusion z)
    | 8, _ => kitAny_cons (kit_bi (by decide +kernel) sb8_0) (fun _ => kitAny_cons (kit_bi (by decide +kernel) sb8_1) (fun _ => kitAny_cons (kit_bi (by decide +kernel) sb8_2) (fun _ => kitAny_cons (kit_bi (by decide +kernel) sb8_3) (fun _ => kitAny_cons (kit_bi (by decide +kernel) sb8_4) (fun _ => kitAny_cons (kit_bi (by decide +kernel) sb8_5) (fun _ => kitAny_nil) (fun z => Bool.noConfusion z)) (fun z => Bool.noConfusion z)) (fun z => Bool.noConfusion z)) (fun z => Bool.noConfusion z)) (fun z => Bool.noConfusion z)) (fun z => Bool.noConfusion z)
  exm := fun i j hi hj => match i, j, hi, hj with
    | 0, 0, _, _ => PySem.W.exm_ref su0 hd0 ty0 s0_0
    | 0, 1, _, _ => PySem.W.exm_ref su1 hd1 ty1 s0_1
    | 0, 2, _, _ => PySem.W.exm_ref su2 hd2 ty2 s0_2
    | 0, 3, _, _ => PySem.W.exm_ref su3 hd3 ty3 s0_3
    | 0, 4, _, _ => PySem.W.exm_ref su4 hd4 ty4 s0_4
    | 0, 5, _, _ => PySem.W.exm_ref su5 hd5 ty5 s0_5
    | 0, 6, _, _ => PySem.W.exm_ref su6 hd6 ty6 s0_6
    | 0, 7, _, _ => PySem.W.exm_ref su7 hd7 ty7 s0_7
    | 0, 8, _, _ => PySem.W.exm_ref su8 hd8 ty8 s0_8
    | 1, 0, _, _ => PySem.W.exm_ref su0 hd0 ty0 s1_0
    | 1, 1, _, _ => PySem.W.exm_ref su1 hd1 ty1 s1_1
    | 1, 2, _, _ => PySem.W.exm_ref su2 hd2 ty2 s1_2
    | 1, 3, _, _ => PySem.W.exm_ref su3 hd3 ty3 s1_3
    | 1, 4, _, _ => PySem.W.exm_ref su4 hd4 ty4 s1_4
    | 1, 5, _, _ => PySem.W.exm_ref su5 hd5 ty5 s1_5
    | 1, 6, _, _ => PySem.W.exm_ref su6 hd6 ty6 s1_6
    | 1, 7, _, _ => PySem.W.exm_ref su7 hd7 ty7 s1_7
    | 1, 8, _, _ => PySem.W.exm_ref su8 hd8 ty8 s1_8
    | 2, 0, _, _ => PySem.W.exm_ref su0 hd0 ty0 s2_0
    | 2, 1, _, _ => PySem.W.exm_ref su1 hd1 ty1 s2_1
    | 2, 2, _, _ => PySem.W.exm_ref su2 hd2 ty2 s2_2
    | 2, 3, _, _ => PySem.W.exm_ref su3 hd3 ty3 s2_3
    | 2, 4, _, _ => PySem.W.exm_ref su4 hd4 ty4 s2_4
    | 2, 5, _, _ => PySem.W.exm_ref su5 hd5 ty5 s2_5
    | 2, 6, _, _ => PySem.W.exm_ref su6 hd6 ty6 s2_6
    | 2, 7, _, _ => PySem.W.exm_ref su7 hd7 ty7 s2_7
    | 2, 8, _, _ => PySem.W.exm_ref su8 hd8 ty8 s2_8
    | 3, 0, _, _ => PySem.W.exm_ref su0 hd0 ty0 s3_0
    | 3, 1, _, _ => PySem.W.exm_ref su1 hd1 ty1 s3_1
    | 3, 2, _, _ => PySem.W.exm_ref su2 hd2 ty2 s3_2
    | 3, 3, _, _ => PySem.W.exm_ref su3 hd3 ty3 s3_3
    | 3, 4, _, _ => PySem.W.exm_ref su4 hd4 ty4 s3_4
    | 3, 5, _, _ => PySem.W.exm_ref su5 hd5 ty5 s3_5
    | 3, 6, _, _ => PySem.W.exm_ref su6 hd6 ty6 s3_6
    | 3, 7, _, _ => PySem.W.exm_ref su7 hd7 ty7 s3_7
    | 3, 8, _, _ => PySem.W.exm_ref su8 hd8 ty8 s3_8
    | 4, 0, _, _ => PySem.W.exm_ref su0 hd0 ty0 s4_0
    | 4, 1, _, _ => PySem.W.exm_ref su1 hd1 ty1 s4_1
    | 4, 2, _, _ => PySem.W.exm_ref su2 hd2 ty2 s4_2
    | 4, 3, _, _ => PySem.W.exm_ref su3 hd3 ty3 s4_3
    | 4, 4, _, _ => PySem.W.exm_ref su4 hd4 ty4 s4_4
    | 4, 5, _, _ => PySem.W.exm_ref su5 hd5 ty5 s4_5
    | 4, 6, _, _ => PySem.W.exm_ref su6 hd6 ty6 s4_6
    | 4, 7, _, _ => PySem.W.exm_ref su7 hd7 ty7 s4_7
    | 4, 8, _, _ => PySem.W.exm_ref su8 hd8 ty8 s4_8
    | 5, 0, _, _ => PySem.W.exm_ref su0 hd0 ty0 s5_0
    | 5, 1, _, _ => PySem.W.exm_ref su1 hd1 ty1 s5_1
    | 5, 2, _, _ => PySem.W.exm_ref su2 hd2 ty2 s5_2
    | 5, 3, _, _ => PySem.W.exm_ref su3 hd3 ty3 s5_3
    | 5, 4, _, _ => PySem.W.exm_ref su4 hd4 ty4 s5_4
    | 5, 5, _, _ => PySem.W.exm_ref su5 hd5 ty5 s5_5
    | 5, 6, _, _ => PySem.W.exm_ref su6 hd6 ty6 s5_6
    | 5, 7, _, _ => PySem.W.exm_ref su7 hd7 ty7 s5_7
    | 5, 8, _, _ => PySem.W.exm_ref su8 hd8 ty8 s5_8
    | 6, 0, _, _ => PySem.W.exm_ref su0 hd0 ty0 s6_0
    | 6, 1, _, _ => PySem.W.exm_ref su1 hd1 ty1 s6_1
    | 6, 2, _, _ => PySem.W.exm_ref su2 hd2 ty2 s6_2
    | 6, 3, _, _ => PySem.W.exm_ref su3 hd3 ty3 s6_3
    | 6, 4, _, _ => PySem.W.exm_ref su4 hd4 ty4 s6_4
    | 6, 5, _, _ => PySem.W.exm_ref su5 hd5 ty5 s6_5
    | 6, 6, _, _ => PySem.W.exm_ref su6 hd6 ty6 s6_6
    | 6, 7, _, _ => PySem.W.exm_ref su7 hd7 ty7 s6_7
    | 6, 8, _, _ => PySem.W.exm_ref su8 hd8 ty8 s6_8
    | 7, 0, _, _ => PySem.W.exm_ref su0 hd0 ty0 s7_0
    | 7, 1, _, _ => PySem.W.exm_ref su1 hd1 ty1 s7_1
    | 7, 2, _, _ => PySem.W.exm_ref su2 hd2 ty2 s7_2
    | 7, 3, _, _ => PySem.W.exm_ref su3 hd3 ty3 s7_3
    | 7, 4, _, _ => PySem.W.exm_ref su4 hd4 ty4 s7_4
    | 7, 5, _, _ => PySem.W.exm_ref su5 hd5 ty5 s7_5
    | 7, 6, _, _ => PySem.W.exm_ref su6 hd6 ty6 s7_6
    | 7, 7, _, _ => PySem.W.exm_ref su7 hd7 ty7 s7_7
    | 7, 8, _, _ => PySem.W.exm_ref su8 hd8 ty8 s7_8
    | 8, 0, _, _ => PySem.W.exm_ref su0 hd0 ty0 s8_0
    | 8, 1, _, _ => PySem.W.exm_ref su1 hd1 ty1 s8_1
    | 8, 2, _, _ => PySem.W.exm_ref su2 hd2 ty2 s8_2
    | 8, 3, _, _ => PySem.W.exm_ref su3 hd3 ty3 s8_3
    | 8, 4, _, _ => PySem.W.exm_ref su4 hd4 ty4 s8_4
    | 8, 5, _, _ => PySem.W.exm_ref su5 hd5 ty5 s8_5
    | 8, 6, _, _ => PySem.W.exm_ref su6 hd6 ty6 s8_6
    | 8, 7, _, _ => PySem.W.exm_ref su7 hd7 ty7 s8_7
    | 8, 8, _, _ => PySem.W.exm_ref su8 hd8 ty8 s8_8
  exmS := fun i hi => match i, hi with
    | 0, _ => PySem.W.exm_ref b_se h_se t_se ss0
    | 1, _ => PySem.W.exm_ref b_se h_se t_se ss1
    | 2, _ => PySem.W.exm_ref b_se h_se t_se ss2
    | 3, _ => PySem.W.exm_ref b_se h_se t_se ss3
    | 4, _ => PySem.W.exm_ref b_se h_se t_se ss4
    | 5, _ => PySem.W.exm_ref b_se h_se t_se ss5
    | 6, _ => PySem.W.exm_ref b_se h_se t_se ss6
    | 7, _ => PySem.W.exm_ref b_se h_se t_se ss7
    | 8, _ => PySem.W.exm_ref b_se h_se t_se ss8
theorem all_mk {h : Heap} {fa se : Addr} {c ini : Nat → Addr} (X : K.In h) (G : h.Ns mainGlobals mg) (hfa : mg "law" = some (.ref fa)) (E : TxtE K mg c ini se)
    {f_deck f_draw f_any f_made f_named f_classes f_held f_raised f_caught f_right f_law : Addr}
    {od_deck an_deck od_draw an_draw od_any an_any od_made an_made od_named an_named od_classes an_classes od_held an_held od_raised an_raised od_caught an_caught od_right an_right od_law an_law : Option Addr}
    {sl_deck sl_draw sl_any sl_made sl_named sl_classes sl_held sl_raised sl_caught sl_right sl_law : Array (Option Value)}
    {oc_deck kV_deck dc_deck pm_deck cd_deck ct_deck oc_draw kV_draw dc_draw pm_draw cd_draw ct_draw oc_any kV_any dc_any pm_any cd_any ct_any oc_made kV_made dc_made pm_made cd_made ct_made oc_named kV_named dc_named pm_named cd_named ct_named oc_classes kV_classes dc_classes pm_classes cd_classes ct_classes oc_held kV_held dc_held pm_held cd_held ct_held oc_raised kV_raised dc_raised pm_raised cd_raised ct_raised oc_caught kV_caught dc_caught pm_caught cd_caught ct_caught oc_right kV_right dc_right pm_right cd_right ct_right oc_law kV_law dc_law pm_law cd_law ct_law : Value}
    (a_deck : PySem.W.nsIn K mainGlobals "_law_deck" = some (some (.ref f_deck)))
    (l_deck : K.lookup f_deck = some ⟨oc_deck, od_deck, .func (PySem.W.fnOf "_law_deck" "_law_deck" (defArgs sDeck) (defBody sDeck) (defScope sDeck) .none kV_deck dc_deck pm_deck an_deck cd_deck ct_deck), sl_deck⟩)
    (c_deck : PySem.W.codeIn K cd_deck "_law_deck" = true)
    (k_deck : PySem.W.keepIn K (.ref f_deck) = true)
    (a_draw : PySem.W.nsIn K mainGlobals "_law_draw" = some (some (.ref f_draw)))
    (l_draw : K.lookup f_draw = some ⟨oc_draw, od_draw, .func (PySem.W.fnOf "_law_draw" "_law_draw" (defArgs sDraw) (defBody sDraw) (defScope sDraw) .none kV_draw dc_draw pm_draw an_draw cd_draw ct_draw), sl_draw⟩)
    (c_draw : PySem.W.codeIn K cd_draw "_law_draw" = true)
    (k_draw : PySem.W.keepIn K (.ref f_draw) = true)
    (a_any : PySem.W.nsIn K mainGlobals "_law_any" = some (some (.ref f_any)))
    (l_any : K.lookup f_any = some ⟨oc_any, od_any, .func (PySem.W.fnOf "_law_any" "_law_any" (defArgs sAny) (defBody sAny) (defScope sAny) .none kV_any dc_any pm_any an_any cd_any ct_any), sl_any⟩)
    (c_any : PySem.W.codeIn K cd_any "_law_any" = true)
    (k_any : PySem.W.keepIn K (.ref f_any) = true)
    (a_made : PySem.W.nsIn K mainGlobals "_law_made" = some (some (.ref f_made)))
    (l_made : K.lookup f_made = some ⟨oc_made, od_made, .func (PySem.W.fnOf "_law_made" "_law_made" (defArgs sMade) (defBody sMade) (defScope sMade) .none kV_made dc_made pm_made an_made cd_made ct_made), sl_made⟩)
    (c_made : PySem.W.codeIn K cd_made "_law_made" = true)
    (k_made : PySem.W.keepIn K (.ref f_made) = true)
    (a_named : PySem.W.nsIn K mainGlobals "_law_named" = some (some (.ref f_named)))
    (l_named : K.lookup f_named = some ⟨oc_named, od_named, .func (PySem.W.fnOf "_law_named" "_law_named" (defArgs sNamed) (defBody sNamed) (defScope sNamed) .none kV_named dc_named pm_named an_named cd_named ct_named), sl_named⟩)
    (c_named : PySem.W.codeIn K cd_named "_law_named" = true)
    (k_named : PySem.W.keepIn K (.ref f_named) = true)
    (a_classes : PySem.W.nsIn K mainGlobals "_law_classes" = some (some (.ref f_classes)))
    (l_classes : K.lookup f_classes = some ⟨oc_classes, od_classes, .func (PySem.W.fnOf "_law_classes" "_law_classes" (defArgs sClasses) (defBody sClasses) (defScope sClasses) .none kV_classes dc_classes pm_classes an_classes cd_classes ct_classes), sl_classes⟩)
    (c_classes : PySem.W.codeIn K cd_classes "_law_classes" = true)
    (k_classes : PySem.W.keepIn K (.ref f_classes) = true)
    (a_held : PySem.W.nsIn K mainGlobals "_law_held" = some (some (.ref f_held)))
    (l_held : K.lookup f_held = some ⟨oc_held, od_held, .func (PySem.W.fnOf "_law_held" "_law_held" (defArgs sHeld) (defBody sHeld) (defScope sHeld) .none kV_held dc_held pm_held an_held cd_held ct_held), sl_held⟩)
    (c_held : PySem.W.codeIn K cd_held "_law_held" = true)
    (k_held : PySem.W.keepIn K (.ref f_held) = true)
    (a_raised : PySem.W.nsIn K mainGlobals "_law_raised" = some (some (.ref f_raised)))
    (l_raised : K.lookup f_raised = some ⟨oc_raised, od_raised, .func (PySem.W.fnOf "_law_raised" "_law_raised" (defArgs sRaised) (defBody sRaised) (defScope sRaised) .none kV_raised dc_raised pm_raised an_raised cd_raised ct_raised), sl_raised⟩)
    (c_raised : PySem.W.codeIn K cd_raised "_law_raised" = true)
    (k_raised : PySem.W.keepIn K (.ref f_raised) = true)
    (a_caught : PySem.W.nsIn K mainGlobals "_law_caught" = some (some (.ref f_caught)))
    (l_caught : K.lookup f_caught = some ⟨oc_caught, od_caught, .func (PySem.W.fnOf "_law_caught" "_law_caught" (defArgs sCaught) (defBody sCaught) (defScope sCaught) .none kV_caught dc_caught pm_caught an_caught cd_caught ct_caught), sl_caught⟩)
    (c_caught : PySem.W.codeIn K cd_caught "_law_caught" = true)
    (k_caught : PySem.W.keepIn K (.ref f_caught) = true)
    (a_right : PySem.W.nsIn K mainGlobals "_law_right" = some (some (.ref f_right)))
    (l_right : K.lookup f_right = some ⟨oc_right, od_right, .func (PySem.W.fnOf "_law_right" "_law_right" (defArgs sRight) (defBody sRight) (defScope sRight) .none kV_right dc_right pm_right an_right cd_right ct_right), sl_right⟩)
    (c_right : PySem.W.codeIn K cd_right "_law_right" = true)
    (k_right : PySem.W.keepIn K (.ref f_right) = true)
    (a_law : PySem.W.nsIn K mainGlobals "law" = some (some (.ref f_law)))
    (l_law : K.lookup f_law = some ⟨oc_law, od_law, .func (PySem.W.fnOf "law" "law" (defArgs sLaw) (defBody sLaw) (defScope sLaw) .none kV_law dc_law pm_law an_law cd_law ct_law), sl_law⟩)
    (c_law : PySem.W.codeIn K cd_law "law" = true)
    (k_law : PySem.W.keepIn K (.ref f_law) = true)
    (z_int : PySem.W.nsIn K mainGlobals "int" = some none)
    (z_list : PySem.W.nsIn K mainGlobals "list" = some none)
    (z_range : PySem.W.nsIn K mainGlobals "range" = some none)
    (z_tuple : PySem.W.nsIn K mainGlobals "tuple" = some none)
    (z_isinstance : PySem.W.nsIn K mainGlobals "isinstance" = some none)
    (z_repr : PySem.W.nsIn K mainGlobals "repr" = some none)
    (z_Exception : PySem.W.nsIn K mainGlobals "Exception" = some none)
    (z_ValueError : PySem.W.nsIn K mainGlobals "ValueError" = some none)
    (z_LookupError : PySem.W.nsIn K mainGlobals "LookupError" = some none)
    (z_ArithmeticError : PySem.W.nsIn K mainGlobals "ArithmeticError" = some none)
    (z_TypeError : PySem.W.nsIn K mainGlobals "TypeError" = some none)
    (z_AttributeError : PySem.W.nsIn K mainGlobals "AttributeError" = some none)
    (z_RuntimeError : PySem.W.nsIn K mainGlobals "RuntimeError" = some none) :
    ∃ fd : FuncData, (∀ (s : Shared) (v : Value), BindsTo s fd ⟨[v], []⟩ [("_law_script", v)]) ∧ ∀ base : Heap, K.In base → base.Ns mainGlobals mg → FnG P w K mg base 5 fa fd ["_law_script"] (spLaw K) := by
  have e := hfa.symm.trans (PySem.W.mg_of X G a_law)
  cases e
  have F_deck := fun_mk (st := sDeck) l_deck c_deck k_deck
  have F_draw := fun_mk (st := sDraw) l_draw c_draw k_draw
  have F_any := fun_mk (st := sAny) l_any c_any k_any
  have F_made := fun_mk (st := sMade) l_made c_made k_made
  have F_named := fun_mk (st := sNamed) l_named c_named k_named
  have F_classes := fun_mk (st := sClasses) l_classes c_classes k_classes
  have F_held := fun_mk (st := sHeld) l_held c_held k_held
  have F_raised := fun_mk (st := sRaised) l_raised c_raised k_raised
  have F_caught := fun_mk (st := sCaught) l_caught c_caught k_caught
  have F_right := fun_mk (st := sRight) l_right c_right k_right
  have F_law := fun_mk (st := sLaw) l_law c_law k_law
  have b_deck := F_deck.binds (ps := ["_law_script"]) fun _ _ _ _ _ _ us hl => match us, hl with | [_], _ => rfl
  have b_draw := F_draw.binds (ps := ["_law_deck_here", "_law_below"]) fun _ _ _ _ _ _ us hl => match us, hl with | [_, _], _ => rfl
  have b_any := F_any.binds (ps := ["_law_deck_here", "_law_deep"]) fun _ _ _ _ _ _ us hl => match us, hl with | [_, _], _ => rfl
  have b_made := F_made.binds (ps := ["_law_spot", "_law_it"]) fun _ _ _ _ _ _ us hl => match us, hl with | [_, _], _ => rfl
  have b_named := F_named.binds (ps := ["_law_spot", "_law_it"]) fun _ _ _ _ _ _ us hl => match us, hl with | [_, _], _ => rfl
  have b_classes := F_classes.binds (ps := ["_law_e"]) fun _ _ _ _ _ _ us hl => match us, hl with | [_], _ => rfl
  have b_held := F_held.binds (ps := ["_law_spot", "_law_e"]) fun _ _ _ _ _ _ us hl => match us, hl with | [_, _], _ => rfl
  have b_raised := F_raised.binds (ps := ["_law_spot", "_law_it"]) fun _ _ _ _ _ _ us hl => match us, hl with | [_, _], _ => rfl
  have b_caught := F_caught.binds (ps := ["_law_spot", "_law_it"]) fun _ _ _ _ _ _ us hl => match us, hl with | [_, _], _ => rfl
  have b_right := F_right.binds (ps := ["_law_spot", "_law_it", "_law_mate"]) fun _ _ _ _ _ _ us hl => match us, hl with | [_, _, _], _ => rfl
  have TD : TxtD mg := ⟨PySem.W.mg_none_of X G z_int, PySem.W.mg_none_of X G z_list⟩
  have TA : TxtA K mg f_draw f_any := { toTxtD := TD, range := PySem.W.mg_none_of X G z_range, tuple := PySem.W.mg_none_of X G z_tuple, gD := PySem.W.mg_of X G a_draw, kD := k_draw, gA := PySem.W.mg_of X G a_any, kA := k_any }
  have TB : TxtB mg := ⟨PySem.W.mg_none_of X G z_isinstance⟩
  have TC : TxtC K mg f_raised := ⟨PySem.W.mg_of X G a_raised, k_raised⟩
  have TR : TxtR K mg f_made f_named f_classes f_held f_caught := ⟨PySem.W.mg_none_of X G z_range, PySem.W.mg_none_of X G z_repr, PySem.W.mg_none_of X G z_Exception, PySem.W.mg_none_of X G z_ValueError, PySem.W.mg_none_of X G z_LookupError, PySem.W.mg_none_of X G z_ArithmeticError, PySem.W.mg_none_of X G z_TypeError, PySem.W.mg_none_of X G z_AttributeError, PySem.W.mg_none_of X G z_RuntimeError, PySem.W.mg_none_of X G z_int, PySem.W.mg_of X G a_made, k_made, PySem.W.mg_of X G a_named, k_named, PySem.W.mg_of X G a_classes, k_classes, PySem.W.mg_of X G a_held, k_held, PySem.W.mg_of X G a_caught, k_caught⟩
  have TL : TxtL K mg f_deck f_right := ⟨PySem.W.mg_of X G a_deck, k_deck, PySem.W.mg_of X G a_right, k_right, PySem.W.mg_none_of X G z_repr⟩
  refine ⟨PySem.W.fnOf "law" "law" (defArgs sLaw) (defBody sLaw) (defScope sLaw) .none kV_law dc_law pm_law an_law cd_law ct_law, fun s v => .of_eq rfl, fun base _ _ => ?_⟩
  have GN : FnOk P w K mg base CX0 1 f_any (PySem.W.fnOf "_law_any" "_law_any" (defArgs sAny) (defBody sAny) (defScope sAny) .none kV_any dc_any pm_any an_any cd_any ct_any) ["_law_deck_here", "_law_deep"] (fun _ _ _ _ => False) := ⟨fun _ _ _ _ z => z.elim, fun _ _ _ _ _ _ _ _ _ _ _ _ _ z => z.elim⟩
  have G0 := ok_any (P := P) (w := w) (base := base) (j := 0) (n := 0) (by decide) F_any F_draw b_draw b_any TA GN (fun m z => absurd z (by omega))
  have G1 := ok_any (P := P) (w := w) (base := base) (j := 1) (n := 1) (by decide) F_any F_draw b_draw b_any TA G0 (fun m z => (by omega : m = 0) ▸ fun _ _ _ _ q => q)
  have G2 := ok_any (P := P) (w := w) (base := base) (j := 2) (n := 2) (by decide) F_any F_draw b_draw b_any TA G1 (fun m z => (by omega : m = 1) ▸ fun _ _ _ _ q => q)
  have GR := ok_right (P := P) (w := w) (base := base) F_right E TB TR (ok_made F_made E) b_made (ok_named F_named E) b_named (ok_classes F_classes E TB) b_classes (ok_held F_held E) b_held (ok_caught F_caught F_raised b_raised E TC) b_caught
  exact ok_law F_law TA TL (ok_deck F_deck TD) b_deck (ok_draw F_draw TD) b_draw G2 b_any GR b_right
end
end K01
open PySem PySem.W PyProof.Rows
set_option maxRecDepth 100000 in
set_option maxHeartbeats 0 in
theorem PySem.Challenge.cw_sealedalike_k01_errors_holds : PySem.Challenge.rw_sealedalike_k01_errors.Holds := by
  w_on; o_law; k_head; (case hw => w_witness2)
  k_fill
  refine Mine.walkG (l := PySem.Challenge.rw_sealedalike_k01_errors) (k := 5) (n := 63) (x := "_law_script") (sp := K01.spLaw) rfl (by decide) rfl ⟨rfl, by decide, by decide⟩ (fun w h Y => PySem.W.kIn_of Y) ?F (fun K H a ns hl _ hS => ⟨a, ns, rfl, hS, hl, fun _ => rfl⟩)
  case F =>
    intro w mg fa h KX G hmg
    refine' (fun E => ?q9main) (K01.err_mk KX G ?q9a_se ?q9i_se ?q9t_se ?q9b_se ?q9h_se ?q9cn ?q9ct ?q9g0 ?q9kp0 ?q9cl0 ?q9ga0 ?q9gg0 ?q9su0 ?q9ca0 ?q9cm0 ?q9ty0 ?q9hd0 ?q9new0 ?q9ov0 ?q9sa0 ?q9tk0 ?q9no0 ?q9in0 ?q9ti0 ?q9li0 ?q9ci0 ?q9ki0 ?q9ss0 ?q9se0 ?q9sb0_0 ?q9sb0_1 ?q9sb0_2 ?q9sb0_3 ?q9sb0_4 ?q9sb0_5 ?q9s0_0 ?q9s0_1 ?q9s0_2 ?q9s0_3 ?q9s0_4 ?q9s0_5 ?q9s0_6 ?q9s0_7 ?q9s0_8 ?q9g1 ?q9kp1 ?q9cl1 ?q9ga1 ?q9gg1 ?q9su1 ?q9ca1 ?q9cm1 ?q9ty1 ?q9hd1 ?q9new1 ?q9ov1 ?q9sa1 ?q9tk1 ?q9no1 ?q9in1 ?q9ti1 ?q9li1 ?q9ci1 ?q9ki1 ?q9ss1 ?q9se1 ?q9sb1_0 ?q9sb1_1 ?q9sb1_2 ?q9sb1_3 ?q9sb1_4 ?q9sb1_5 ?q9s1_0 ?q9s1_1 ?q9s1_2 ?q9s1_3 ?q9s1_4 ?q9s1_5 ?q9s1_6 ?q9s1_7 ?q9s1_8 ?q9g2 ?q9kp2 ?q9cl2 ?q9ga2 ?q9gg2 ?q9su2 ?q9ca2 ?q9cm2 ?q9ty2 ?q9hd2 ?q9new2 ?q9ov2 ?q9sa2 ?q9tk2 ?q9no2 ?q9in2 ?q9ti2 ?q9li2 ?q9ci2 ?q9ki2 ?q9ss2 ?q9se2 ?q9sb2_0 ?q9sb2_1 ?q9sb2_2 ?q9sb2_3 ?q9sb2_4 ?q9sb2_5 ?q9s2_0 ?q9s2_1 ?q9s2_2 ?q9s2_3 ?q9s2_4 ?q9s2_5 ?q9s2_6 ?q9s2_7 ?q9s2_8 ?q9g3 ?q9kp3 ?q9cl3 ?q9ga3 ?q9gg3 ?q9su3 ?q9ca3 ?q9cm3 ?q9ty3 ?q9hd3 ?q9new3 ?q9ov3 ?q9sa3 ?q9tk3 ?q9no3 ?q9in3 ?q9ti3 ?q9li3 ?q9ci3 ?q9ki3 ?q9ss3 ?q9se3 ?q9sb3_0 ?q9sb3_1 ?q9sb3_2 ?q9sb3_3 ?q9sb3_4 ?q9sb3_5 ?q9s3_0 ?q9s3_1 ?q9s3_2 ?q9s3_3 ?q9s3_4 ?q9s3_5 ?q9s3_6 ?q9s3_7 ?q9s3_8 ?q9g4 ?q9kp4 ?q9cl4 ?q9ga4 ?q9gg4 ?q9su4 ?q9ca4 ?q9cm4 ?q9ty4 ?q9hd4 ?q9new4 ?q9ov4 ?q9sa4 ?q9tk4 ?q9no4 ?q9in4 ?q9ti4 ?q9li4 ?q9ci4 ?q9ki4 ?q9ss4 ?q9se4 ?q9sb4_0 ?q9sb4_1 ?q9sb4_2 ?q9sb4_3 ?q9sb4_4 ?q9sb4_5 ?q9s4_0 ?q9s4_1 ?q9s4_2 ?q9s4_3 ?q9s4_4 ?q9s4_5 ?q9s4_6 ?q9s4_7 ?q9s4_8 ?q9g5 ?q9kp5 ?q9cl5 ?q9ga5 ?q9gg5 ?q9su5 ?q9ca5 ?q9cm5 ?q9ty5 ?q9hd5 ?q9new5 ?q9ov5 ?q9sa5 ?q9tk5 ?q9no5 ?q9in5 ?q9ti5 ?q9li5 ?q9ci5 ?q9ki5 ?q9ss5 ?q9se5 ?q9sb5_0 ?q9sb5_1 ?q9sb5_2 ?q9sb5_3 ?q9sb5_4 ?q9sb5_5 ?q9s5_0 ?q9s5_1 ?q9s5_2 ?q9s5_3 ?q9s5_4 ?q9s5_5 ?q9s5_6 ?q9s5_7 ?q9s5_8 ?q9g6 ?q9kp6 ?q9cl6 ?q9ga6 ?q9gg6 ?q9su6 ?q9ca6 ?q9cm6 ?q9ty6 ?q9hd6 ?q9new6 ?q9ss6 ?q9se6 ?q9sb6_0 ?q9sb6_1 ?q9sb6_2 ?q9sb6_3 ?q9sb6_4 ?q9sb6_5 ?q9s6_0 ?q9s6_1 ?q9s6_2 ?q9s6_3 ?q9s6_4 ?q9s6_5 ?q9s6_6 ?q9s6_7 ?q9s6_8 ?q9g7 ?q9kp7 ?q9cl7 ?q9ga7 ?q9gg7 ?q9su7 ?q9ca7 ?q9cm7 ?q9ty7 ?q9hd7 ?q9new7 ?q9ss7 ?q9se7 ?q9sb7_0 ?q9sb7_1 ?q9sb7_2 ?q9sb7_3 ?q9sb7_4 ?q9sb7_5 ?q9s7_0 ?q9s7_1 ?q9s7_2 ?q9s7_3 ?q9s7_4 ?q9s7_5 ?q9s7_6 ?q9s7_7 ?q9s7_8 ?q9g8 ?q9kp8 ?q9cl8 ?q9ga8 ?q9gg8 ?q9su8 ?q9ca8 ?q9cm8 ?q9ty8 ?q9hd8 ?q9new8 ?q9ss8 ?q9se8 ?q9sb8_0 ?q9sb8_1 ?q9sb8_2 ?q9sb8_3 ?q9sb8_4 ?q9sb8_5 ?q9s8_0 ?q9s8_1 ?q9s8_2 ?q9s8_3 ?q9s8_4 ?q9s8_5 ?q9s8_6 ?q9s8_7 ?q9s8_8)
    (case q9a_se => k_is)
    (case q9g0 => k_is)
    (case q9g1 => k_is)
    (case q9g2 => k_is)
    (case q9g3 => k_is)
    (case q9g4 => k_is)
    (case q9g5 => k_is)
    (case q9g6 => k_is)
    (case q9g7 => k_is)
    (case q9g8 => k_is)
    (case q9i_se => k_is)
    (case q9t_se => k_is)
    (case q9b_se => k_is)
    (case q9h_se => k_is)
    (case q9cn => k_is)
    (case q9ct => k_is)
    (case q9kp0 => k_is)
    (case q9cl0 => k_is)
    (case q9ga0 => k_is)
    (case q9gg0 => k_is)
    (case q9su0 => k_is)
    (case q9ca0 => k_is)
    (case q9cm0 => k_is)
    (case q9ty0 => k_is)
    (case q9hd0 => k_is)
    (case q9new0 => first | kx_is | k_exc | k_is)
    (case q9ov0 => first | kx_is | k_exc | k_is)
    (case q9sa0 => k_is)
    (case q9tk0 => k_is)
    (case q9no0 => k_is)
    (case q9in0 => k_is)
    (case q9ti0 => k_is)
    (case q9li0 => k_is)
    (case q9ci0 => k_is)
    (case q9ki0 => k_is)
    (case q9ss0 => k_is)
    (case q9se0 => k_is)
    (case q9sb0_0 => k_is)
    (case q9sb0_1 => k_is)
    (case q9sb0_2 => k_is)
    (case q9sb0_3 => k_is)
    (case q9sb0_4 => k_is)
    (case q9sb0_5 => k_is)
    (case q9s0_0 => k_is)
    (case q9s0_1 => k_is)
    (case q9s0_2 => k_is)
    (case q9s0_3 => k_is)
    (case q9s0_4 => k_is)
    (case q9s0_5 => k_is)
    (case q9s0_6 => k_is)
    (case q9s0_7 => k_is)
    (case q9s0_8 => k_is)
    (case q9kp1 => k_is)
    (case q9cl1 => k_is)
    (case q9ga1 => k_is)
    (case q9gg1 => k_is)
    (case q9su1 => k_is)
    (case q9ca1 => k_is)
    (case q9cm1 => k_is)
    (case q9ty1 => k_is)
    (case q9hd1 => k_is)
    (case q9new1 => first | kx_is | k_exc | k_is)
    (case q9ov1 => first | kx_is | k_exc | k_is)
    (case q9sa1 => k_is)
    (case q9tk1 => k_is)
    (case q9no1 => k_is)
    (case q9in1 => k_is)
    (case q9ti1 => k_is)
    (case q9li1 => k_is)
    (case q9ci1 => k_is)
    (case q9ki1 => k_is)
    (case q9ss1 => k_is)
    (case q9se1 => k_is)
    (case q9sb1_0 => k_is)
    (case q9sb1_1 => k_is)
    (case q9sb1_2 => k_is)
    (case q9sb1_3 => k_is)
    (case q9sb1_4 => k_is)
    (case q9sb1_5 => k_is)
    (case q9s1_0 => k_is)
    (case q9s1_1 => k_is)
    (case q9s1_2 => k_is)
    (case q9s1_3 => k_is)
    (case q9s1_4 => k_is)
    (case q9s1_5 => k_is)
    (case q9s1_6 => k_is)
    (case q9s1_7 => k_is)
    (case q9s1_8 => k_is)
    (case q9kp2 => k_is)
    (case q9cl2 => k_is)
    (case q9ga2 => k_is)
    (case q9gg2 => k_is)
    (case q9su2 => k_is)
    (case q9ca2 => k_is)
    (case q9cm2 => k_is)
    (case q9ty2 => k_is)
    (case q9hd2 => k_is)
    (case q9new2 => first | kx_is | k_exc | k_is)
    (case q9ov2 => first | kx_is | k_exc | k_is)
    (case q9sa2 => k_is)
    (case q9tk2 => k_is)
    (case q9no2 => k_is)
    (case q9in2 => k_is)
    (case q9ti2 => k_is)
    (case q9li2 => k_is)
    (case q9ci2 => k_is)
    (case q9ki2 => k_is)
    (case q9ss2 => k_is)
    (case q9se2 => k_is)
    (case q9sb2_0 => k_is)
    (case q9sb2_1 => k_is)
    (case q9sb2_2 => k_is)
    (case q9sb2_3 => k_is)
    (case q9sb2_4 => k_is)
    (case q9sb2_5 => k_is)
    (case q9s2_0 => k_is)
    (case q9s2_1 => k_is)
    (case q9s2_2 => k_is)
    (case q9s2_3 => k_is)
    (case q9s2_4 => k_is)
    (case q9s2_5 => k_is)
    (case q9s2_6 => k_is)
    (case q9s2_7 => k_is)
    (case q9s2_8 => k_is)
    (case q9kp3 => k_is)
    (case q9cl3 => k_is)
    (case q9ga3 => k_is)
    (case q9gg3 => k_is)
    (case q9su3 => k_is)
    (case q9ca3 => k_is)
    (case q9cm3 => k_is)
    (case q9ty3 => k_is)
    (case q9hd3 => k_is)
    (case q9new3 => first | kx_is | k_exc | k_is)
    (case q9ov3 => first | kx_is | k_exc | k_is)
    (case q9sa3 => k_is)
    (case q9tk3 => k_is)
    (case q9no3 => k_is)
    (case q9in3 => k_is)
    (case q9ti3 => k_is)
    (case q9li3 => k_is)
    (case q9ci3 => k_is)
    (case q9ki3 => k_is)
    (case q9ss3 => k_is)
    (case q9se3 => k_is)
    (case q9sb3_0 => k_is)
    (case q9sb3_1 => k_is)
    (case q9sb3_2 => k_is)
    (case q9sb3_3 => k_is)
    (case q9sb3_4 => k_is)
    (case q9sb3_5 => k_is)
    (case q9s3_0 => k_is)
    (case q9s3_1 => k_is)
    (case q9s3_2 => k_is)
    (case q9s3_3 => k_is)
    (case q9s3_4 => k_is)
    (case q9s3_5 => k_is)
    (case q9s3_6 => k_is)
    (case q9s3_7 => k_is)
    (case q9s3_8 => k_is)
    (case q9kp4 => k_is)
    (case q9cl4 => k_is)
    (case q9ga4 => k_is)
    (case q9gg4 => k_is)
    (case q9su4 => k_is)
    (case q9ca4 => k_is)
    (case q9cm4 => k_is)
    (case q9ty4 => k_is)
    (case q9hd4 => k_is)
    (case q9new4 => first | kx_is | k_exc | k_is)
    (case q9ov4 => first | kx_is | k_exc | k_is)
    (case q9sa4 => k_is)
    (case q9tk4 => k_is)
    (case q9no4 => k_is)
    (case q9in4 => k_is)
    (case q9ti4 => k_is)
    (case q9li4 => k_is)
    (case q9ci4 => k_is)
    (case q9ki4 => k_is)
    (case q9ss4 => k_is)
    (case q9se4 => k_is)
    (case q9sb4_0 => k_is)
    (case q9sb4_1 => k_is)
    (case q9sb4_2 => k_is)
    (case q9sb4_3 => k_is)
    (case q9sb4_4 => k_is)
    (case q9sb4_5 => k_is)
    (case q9s4_0 => k_is)
    (case q9s4_1 => k_is)
    (case q9s4_2 => k_is)
    (case q9s4_3 => k_is)
    (case q9s4_4 => k_is)
    (case q9s4_5 => k_is)
    (case q9s4_6 => k_is)
    (case q9s4_7 => k_is)
    (case q9s4_8 => k_is)
    (case q9kp5 => k_is)
    (case q9cl5 => k_is)
    (case q9ga5 => k_is)
    (case q9gg5 => k_is)
    (case q9su5 => k_is)
    (case q9ca5 => k_is)
    (case q9cm5 => k_is)
    (case q9ty5 => k_is)
    (case q9hd5 => k_is)
    (case q9new5 => first | kx_is | k_exc | k_is)
    (case q9ov5 => first | kx_is | k_exc | k_is)
    (case q9sa5 => k_is)
    (case q9tk5 => k_is)
    (case q9no5 => k_is)
    (case q9in5 => k_is)
    (case q9ti5 => k_is)
    (case q9li5 => k_is)
    (case q9ci5 => k_is)
    (case q9ki5 => k_is)
    (case q9ss5 => k_is)
    (case q9se5 => k_is)
    (case q9sb5_0 => k_is)
    (case q9sb5_1 => k_is)
    (case q9sb5_2 => k_is)
    (case q9sb5_3 => k_is)
    (case q9sb5_4 => k_is)
    (case q9sb5_5 => k_is)
    (case q9s5_0 => k_is)
    (case q9s5_1 => k_is)
    (case q9s5_2 => k_is)
    (case q9s5_3 => k_is)
    (case q9s5_4 => k_is)
    (case q9s5_5 => k_is)
    (case q9s5_6 => k_is)
    (case q9s5_7 => k_is)
    (case q9s5_8 => k_is)
    (case q9kp6 => k_is)
    (case q9cl6 => k_is)
    (case q9ga6 => k_is)
    (case q9gg6 => k_is)
    (case q9su6 => k_is)
    (case q9ca6 => k_is)
    (case q9cm6 => k_is)
    (case q9ty6 => k_is)
    (case q9hd6 => k_is)
    (case q9new6 => first | kx_is | k_exc | k_is)
    (case q9ss6 => k_is)
    (case q9se6 => k_is)
    (case q9sb6_0 => k_is)
    (case q9sb6_1 => k_is)
    (case q9sb6_2 => k_is)
    (case q9sb6_3 => k_is)
    (case q9sb6_4 => k_is)
    (case q9sb6_5 => k_is)
    (case q9s6_0 => k_is)
    (case q9s6_1 => k_is)
    (case q9s6_2 => k_is)
    (case q9s6_3 => k_is)
    (case q9s6_4 => k_is)
    (case q9s6_5 => k_is)
    (case q9s6_6 => k_is)
    (case q9s6_7 => k_is)
    (case q9s6_8 => k_is)
    (case q9kp7 => k_is)
    (case q9cl7 => k_is)
    (case q9ga7 => k_is)
    (case q9gg7 => k_is)
    (case q9su7 => k_is)
    (case q9ca7 => k_is)
    (case q9cm7 => k_is)
    (case q9ty7 => k_is)
    (case q9hd7 => k_is)
    (case q9new7 => first | kx_is | k_exc | k_is)
    (case q9ss7 => k_is)
    (case q9se7 => k_is)
    (case q9sb7_0 => k_is)
    (case q9sb7_1 => k_is)
    (case q9sb7_2 => k_is)
    (case q9sb7_3 => k_is)
    (case q9sb7_4 => k_is)
    (case q9sb7_5 => k_is)
    (case q9s7_0 => k_is)
    (case q9s7_1 => k_is)
    (case q9s7_2 => k_is)
    (case q9s7_3 => k_is)
    (case q9s7_4 => k_is)
    (case q9s7_5 => k_is)
    (case q9s7_6 => k_is)
    (case q9s7_7 => k_is)
    (case q9s7_8 => k_is)
    (case q9kp8 => k_is)
    (case q9cl8 => k_is)
    (case q9ga8 => k_is)
    (case q9gg8 => k_is)
    (case q9su8 => k_is)
    (case q9ca8 => k_is)
    (case q9cm8 => k_is)
    (case q9ty8 => k_is)
    (case q9hd8 => k_is)
    (case q9new8 => first | kx_is | k_exc | k_is)
    (case q9ss8 => k_is)
    (case q9se8 => k_is)
    (case q9sb8_0 => k_is)
    (case q9sb8_1 => k_is)
    (case q9sb8_2 => k_is)
    (case q9sb8_3 => k_is)
    (case q9sb8_4 => k_is)
    (case q9sb8_5 => k_is)
    (case q9s8_0 => k_is)
    (case q9s8_1 => k_is)
    (case q9s8_2 => k_is)
    (case q9s8_3 => k_is)
    (case q9s8_4 => k_is)
    (case q9s8_5 => k_is)
    (case q9s8_6 => k_is)
    (case q9s8_7 => k_is)
    (case q9s8_8 => k_is)
    case q9main =>
      refine' K01.all_mk KX G hmg E ?q9a_deck ?q9l_deck ?q9c_deck ?q9k_deck ?q9a_draw ?q9l_draw ?q9c_draw ?q9k_draw ?q9a_any ?q9l_any ?q9c_any ?q9k_any ?q9a_made ?q9l_made ?q9c_made ?q9k_made ?q9a_named ?q9l_named ?q9c_named ?q9k_named ?q9a_classes ?q9l_classes ?q9c_classes ?q9k_classes ?q9a_held ?q9l_held ?q9c_held ?q9k_held ?q9a_raised ?q9l_raised ?q9c_raised ?q9k_raised ?q9a_caught ?q9l_caught ?q9c_caught ?q9k_caught ?q9a_right ?q9l_right ?q9c_right ?q9k_right ?q9a_law ?q9l_law ?q9c_law ?q9k_law ?q9z_int ?q9z_list ?q9z_range ?q9z_tuple ?q9z_isinstance ?q9z_repr ?q9z_Exception ?q9z_ValueError ?q9z_LookupError ?q9z_ArithmeticError ?q9z_TypeError ?q9z_AttributeError ?q9z_RuntimeError
      (case q9a_deck => k_is)
      (case q9l_deck => k_is)
      (case q9c_deck => k_is)
      (case q9k_deck => k_is)
      (case q9a_draw => k_is)
      (case q9l_draw => k_is)
      (case q9c_draw => k_is)
      (case q9k_draw => k_is)
      (case q9a_any => k_is)
      (case q9l_any => k_is)
      (case q9c_any => k_is)
      (case q9k_any => k_is)
      (case q9a_made => k_is)
      (case q9l_made => k_is)
      (case q9c_made => k_is)
      (case q9k_made => k_is)
      (case q9a_named => k_is)
      (case q9l_named => k_is)
      (case q9c_named => k_is)
      (case q9k_named => k_is)
      (case q9a_classes => k_is)
      (case q9l_classes => k_is)
      (case q9c_classes => k_is)
      (case q9k_classes => k_is)
      (case q9a_held => k_is)
      (case q9l_held => k_is)
      (case q9c_held => k_is)
      (case q9k_held => k_is)
      (case q9a_raised => k_is)
      (case q9l_raised => k_is)
      (case q9c_raised => k_is)
      (case q9k_raised => k_is)
      (case q9a_caught => k_is)
      (case q9l_caught => k_is)
      (case q9c_caught => k_is)
      (case q9k_caught => k_is)
      (case q9a_right => k_is)
      (case q9l_right => k_is)
      (case q9c_right => k_is)
      (case q9k_right => k_is)
      (case q9a_law => k_is)
      (case q9l_law => k_is)
      (case q9c_law => k_is)
      (case q9k_law => k_is)
      (case q9z_int => k_is)
      (case q9z_list => k_is)
      (case q9z_range => k_is)
      (case q9z_tuple => k_is)
      (case q9z_isinstance => k_is)
      (case q9z_repr => k_is)
      (case q9z_Exception => k_is)
      (case q9z_ValueError => k_is)
      (case q9z_LookupError => k_is)
      (case q9z_ArithmeticError => k_is)
      (case q9z_TypeError => k_is)
      (case q9z_AttributeError => k_is)
      (case q9z_RuntimeError => k_is)

